/- Contracts: the things in a part; so many of them. -/
import Derived.Test.YtepmgjohjeiopaaZf
import Derived.Test.YtepmgjohjeiopaaCol
import Derived.Laws.BytesArg
import Derived.Lib.LazyBuf
set_option linter.unusedVariables false
set_option linter.unusedSectionVars false
namespace Go.Proofs.Ytepmgjohjeiopaa
open Go.RowKit Go.Shelf Rk

attribute [local go_sem] Oper.semAt_some

theorem L12.Try.infoInt : (Try.prog.info? 3).map (fun i => (i.zero, i.size, i.bytes)) = some (some (.int .i64 0), 1, 8) := by kernel_rfl
def CloneIPost (w : World) (zs : List Int) (e : Ending) (w' : World) : Prop :=
  ∃ a b cap, e = .returned (.slice a zs.length cap) ∧ zs.length ≤ cap ∧ IntsAt .i64 w'.heap.size w' a b 0 zs.length zs ∧ (zs.length = 0 ∨ w.heap.size ≤ b) ∧ Below w.heap.size w w' ∧ (a = none → zs.length = 0 ∧ cap = 0) ∧ (zs.length = 0 ∨ ∃ cur, w'.heap[b]? = some (.cells cur 3 (0, 0)))
theorem cloneI_any {B : Nat} {w : World} {a : Option Addr} {b off len cap : Nat} {zs : List Int} (h : IntsAt .i64 B w a b off len zs) (h0 : a = none → len = 0 ∧ cap = 0) (hcap : len ≤ 65536) :
    Calls Try.prog 73 #[.slice a len cap] w (CloneIPost w zs) := by
  have heq := fun (w : World) => run_eql_slice_nil (P := Try.prog) w 24 3 a len cap Try.underlying24
  have HL := Lib.hid h.length
  cases a with
  | none =>
    obtain ⟨rfl, rfl⟩ := h0 rfl
    have hz : zs = [] := List.eq_nil_of_length_eq_zero h.length
    subst hz
    clear h h0
    go_enter Try.func73, Try.ntmps73
    go_wp2
    go_ret
    exact ⟨none, 0, 0, rfl, Nat.le_refl _, ⟨.inl rfl, rfl, Nat.zero_le _, .inl rfl, fun i hi => absurd hi (Nat.not_lt_zero _), fun n hn => by simp at hn⟩, .inl rfl, Below.refl _ _, fun _ => ⟨rfl, rfl⟩, .inl rfl⟩
  | some x =>
    obtain ⟨i0, hi, hz0, hz1, hz2⟩ := info_parts L12.Try.infoInt
    have HI := Lib.hid hi
    have HZ0 := Lib.hid hz0
    have HZ1 := Lib.hid hz1
    have HZ2 := Lib.hid hz2
    have H := Lib.hid h
    have hcells : ∀ o : Obj, ∀ j u, (ivals .i64 zs)[j]? = some u → (w.alloc o).cell? (x.add j) = some u := by
      intro o j u hj
      unfold ivals at hj
      rw [List.getElem?_map] at hj
      obtain ⟨n, hn, rfl⟩ := Option.map_eq_some_iff.1 hj
      obtain ⟨hjl, hjn⟩ := List.getElem?_eq_some_iff.1 hn
      have hlen := h.length
      have hx : some x = some ⟨b, off, none⟩ := h.addr.resolve_left (by omega)
      cases hx
      have hc := h.cell j (by omega)
      have hlt : b < w.heap.size := by have := World.block_lt_of_cell? _ _ hc; exact this
      rw [addr_add, World.cell?_alloc_lt w o (a := ⟨b, off + j, none⟩) hlt, hc]
      simp [List.getD, hn]
    have HC := Lib.hid hcells
    clear h h0 hi hz0 hz1 hz2 hcells
    go_enter Try.func73, Try.ntmps73
    go_wp2_with (at_builtin; refine wpList_append_own _ rfl _ _ 24 rfl w.heap.size 3 i0 (.int .i64 0) 1 8 Try.underlying24 HI.out HZ0.out HZ1.out HZ2.out rfl (by decide) (.slice (some ⟨w.heap.size, 0, none⟩) 0 0) 0 [] rfl (World.ownsRow_made w #[] 0 (Nat.le_refl _) (Nat.zero_le _) rfl) x len cap (ivals .i64 zs) rfl (by unfold ivals; rw [List.length_map, HL.out, Nat.mul_one]) (HC.out _) (by unfold ivals; intro u hu; obtain ⟨n, _, rfl⟩ := List.mem_map.1 hu; rfl) (by unfold maxLen; omega) (by omega) (by simp) ?_; intro v' w1 hown hgrow hnil)
    rw [List.nil_append, Nat.zero_add] at hown
    obtain ⟨a5, cap5, b5, rfl, hc1, hc2, hb5, HS⟩ := Gath.ints (.inr hown) HL.out H.out.fits
    have hcel : len = 0 ∨ ∃ cur, w1.heap[b5]? = some (.cells cur 3 (0, 0)) := by
      by_cases h0 : len = 0
      · exact .inl h0
      · refine .inr ?_
        rcases hown.2 with ⟨h1, h2⟩ | ⟨g, c9, cur, h1, _, hg, _⟩
        · exact absurd h2 h0
        · have h3 : a5 = some ⟨b5, 0, none⟩ := HS.addr.resolve_left h0
          rw [h3] at h1
          cases h1
          exact ⟨cur, hg⟩
    have hnc : a5 = none → len = 0 ∧ cap5 = 0 := by
      intro e
      rcases hown.2 with ⟨h1, _⟩ | ⟨g, _, _, h1, _⟩
      · cases h1; exact ⟨rfl, rfl⟩
      · cases h1; cases e
    go_ret
    refine ⟨a5, b5, cap5, ?_, ?_, ?_, ?_, ((Below.refl _ w).alloc (Nat.le_refl _) _).grown hgrow (by simp) (fun k hk => ?_), ?_, ?_⟩
    · show Ending.returned (.slice a5 len cap5) = _
      rw [HL.out]
    · rw [HL.out]; exact hc1
    · rw [HL.out]; exact HS
    · rw [HL.out]; exact hb5
    · simp [Value.ownBlock] at hk; omega
    · rw [HL.out]; exact hnc
    · rw [HL.out]; exact hcel


/-- The things of the first j that are in part p. -/
def sideL (ms : List Int) (p : Int) : Nat → List Int
  | 0 => []
  | j + 1 => sideL ms p j ++ if ms.getD j 0 = p then [(j : Int)] else []
theorem sideL_add (ms : List Int) (p : Int) (k j : Nat) : sideL ms p k <+: sideL ms p (k + j) := by
  induction j with
  | zero => exact List.prefix_refl _
  | succ j ih => exact ih.trans (List.prefix_append _ _)
theorem sideL_le (ms : List Int) (p : Int) {k j : Nat} (h : k ≤ j) : sideL ms p k <+: sideL ms p j := by
  obtain ⟨d, rfl⟩ : ∃ d, j = k + d := ⟨j - k, by omega⟩
  exact sideL_add ms p k d
theorem sideL_length (ms : List Int) (p : Int) (k : Nat) : (sideL ms p k).length ≤ k := by
  induction k with
  | zero => exact Nat.le_refl _
  | succ k ih => rw [sideL, List.length_append]; split <;> simp <;> omega
theorem mem_sideL {ms : List Int} {p : Int} : ∀ {k : Nat} {x : Int}, x ∈ sideL ms p k ↔ ∃ i : Nat, i < k ∧ ms.getD i 0 = p ∧ x = (i : Int)
  | 0, x => by simp [sideL]
  | k + 1, x => by
    rw [sideL, List.mem_append, mem_sideL]
    constructor
    · rintro (⟨i, h1, h2⟩ | h)
      · exact ⟨i, by omega, h2⟩
      · by_cases e : ms.getD k 0 = p
        · rw [if_pos e, List.mem_singleton] at h
          exact ⟨k, by omega, e, h⟩
        · rw [if_neg e] at h; simp at h
    · rintro ⟨i, h1, h2, h3⟩
      by_cases e : i = k
      · subst e; right; rw [if_pos h2, h3]; simp
      · left; exact ⟨i, by omega, h2, h3⟩
/-- What Side's iterator needs. -/
structure SidR (lo hi b1 b2 rb : Nat) (p : Int) (ms : List Int) (W : World) : Prop where
  bp : Boxed W b1 3 (.int .i64 p)
  row : ∃ a cap, Boxed W b2 24 (.slice a ms.length cap) ∧ (ms.length = 0 ∨ a = some ⟨rb, 0, none⟩)
  cells : ms.length = 0 ∨ ∃ cur, W.heap[rb]? = some (.cells cur 3 (0, 0)) ∧ ∀ i, i < ms.length → cur[i]? = some (.int .i64 (ms.getD i 0))
  l1 : lo ≤ b1 ∧ b1 < hi
  l2 : lo ≤ b2 ∧ b2 < hi
  l3 : ms.length = 0 ∨ (lo ≤ rb ∧ rb < hi)
  small : ms.length ≤ 100000
theorem SidR.mid {lo hi b1 b2 rb : Nat} {p : Int} {ms : List Int} {W W' : World} (h : SidR lo hi b1 b2 rb p ms W) (hm : Mid lo hi W W') : SidR lo hi b1 b2 rb p ms W' := by
  obtain ⟨a, cap, h1, h2⟩ := h.row
  refine ⟨(hm.block _ h.l1.1 h.l1.2).trans h.bp, ⟨a, cap, (hm.block _ h.l2.1 h.l2.2).trans h1, h2⟩, ?_, h.l1, h.l2, h.l3, h.small⟩
  by_cases e : ms.length = 0
  · exact .inl e
  · obtain ⟨cur, h3, h4⟩ := h.cells.resolve_left e
    have h5 := h.l3.resolve_left e
    exact .inr ⟨cur, (hm.block _ h5.1 h5.2).trans h3, h4⟩
theorem SidR.cell {lo hi b1 b2 rb : Nat} {p : Int} {ms : List Int} {W : World} (h : SidR lo hi b1 b2 rb p ms W) {i : Nat} (hi' : i < ms.length) : W.cell? ⟨rb, i, none⟩ = some (.int .i64 (ms.getD i 0)) := by
  obtain ⟨cur, h3, h4⟩ := h.cells.resolve_left (by omega)
  exact heap_cell h3 (h4 i hi')
set_option maxRecDepth 100000 in
set_option maxHeartbeats 2000000 in
theorem side1_in (n : Nat) (hn : 1 ≤ n) {lo hi b1 b2 rb : Nat} {p : Int} {ms : List Int} (w : World) (h : SidR lo hi b1 b2 rb p ms w) (hhi : hi ≤ w.heap.size) :
    SeqP Fence.wide n Try.prog 89 #[.pointer (some ⟨b2, 0, none⟩), .pointer (some ⟨b1, 0, none⟩)] enc1 (Mid lo hi) (sideL ms p ms.length) w := fun l J Jx W hW hJ hJx hY h0 => by
  have hR := h.mid (Mid.of_below hW hhi)
  have HR := Lib.hid hR
  obtain ⟨a, cap, hbr, hra⟩ := hR.row
  have cr := hbr.cell
  have HRA := Lib.hid hra
  have hsm := hR.small
  obtain ⟨m, hm⟩ : ∃ m, ms.length = m := ⟨_, rfl⟩
  have HMm := Lib.hid hm
  rw [hm] at cr hsm hY ⊢
  clear h hR hW hJ hJx hbr hra hm
  refine callsIn_of_wp Try.func89 rfl trivial ?_ rfl
  simp only [Try.ntmps89, List.size_toArray, List.length_cons, List.length_nil, Nat.reduceAdd, Nat.reduceSub, Array.replicate_succ, Array.replicate_zero, List.push_toArray, List.append_toArray, List.nil_append, List.cons_append]
  gi_wp2
  gi_loopw [8] (fun i wr => ∃ j : Nat, i = .int .i64 j ∧ j ≤ m ∧ Hid (J (sideL ms p j) wr) ∧ Hid (Mid lo hi W wr)) (fun i _ => m - (intOf i).toNat)
  case atStart => exact ⟨0, rfl, Nat.zero_le _, Lib.hid h0, Lib.hid (Mid.refl _ _ _)⟩
  case round =>
    obtain ⟨j, rfl, hj, hJs, hM⟩ := hrel
    clear cr
    by_cases hlt : j < m
    · have hRr := HR.out.mid hM.out
      have cp := hRr.bp.cell
      have cj := hRr.cell (i := j) (by rw [HMm.out]; exact hlt)
      obtain rfl : a = some ⟨rb, 0, none⟩ := HRA.out.resolve_left (by rw [HMm.out]; omega)
      have HS : Hid (sideL ms p (j + 1) = sideL ms p j ++ if ms.getD j 0 = p then [(j : Int)] else []) := Lib.hid rfl
      generalize ms.getD j 0 = y at *
      clear hRr
      by_cases hyp : y = p
      · have HE : Hid (sideL ms p (j + 1) = sideL ms p j ++ [(j : Int)]) := Lib.hid (by rw [HS.out, if_pos hyp])
        have hp : sideL ms p j ++ [(j : Int)] <+: sideL ms p m := by rw [← HE.out]; exact sideL_le ms p (by omega)
        obtain ⟨fn, tmps, assign, body, hy, hR⟩ := hY (sideL ms p j) (j : Int) wr hJs.out hp
        dsimp only [enc1] at hy
        have HR1 := Lib.hid hR
        have hd : (y == p) = true := by simpa using hyp
        clear hY hR hp hyp HS
        gi_wp2
        refine RoundIn.mono HR1.out ?_
        rintro e W3 (⟨rfl, hJ3, hk3⟩ | ⟨rfl, hJx3⟩)
        · have HJ3 := Lib.hid hJ3
          have HK3 := Lib.hid (hM.out.trans hk3)
          clear hJ3 hk3
          gi_wp2
          go_roundw
          case rel => exact ⟨j + 1, by go_num, by omega, by rw [HE.out]; exact HJ3, HK3⟩
          case measure => simp [intOf]; omega
        · have HJX := Lib.hid hJx3
          clear hJx3
          gi_wp2
          refine bodyPost_ret (results_none rfl _ _ _) rfl ?_
          exact ⟨⟨_, rfl⟩, .inr ⟨sideL ms p j ++ [(j : Int)], by rw [← HE.out]; exact sideL_le ms p (by omega), HJX.out⟩⟩
      · have HE : Hid (sideL ms p (j + 1) = sideL ms p j) := Lib.hid (by rw [HS.out, if_neg hyp, List.append_nil])
        have hd : (y == p) = false := by simpa using hyp
        clear hY hyp HS
        gi_wp2
        refine ⟨fun _ h => (by cases h), ?_⟩
        gi_wp2
        go_roundw
        case rel => exact ⟨j + 1, by go_num, by omega, by rw [HE.out]; exact hJs, hM⟩
        case measure => simp [intOf]; omega
    · obtain rfl : j = m := by omega
      gi_wp2
      go_end0
      exact ⟨⟨_, rfl⟩, .inl hJs.out⟩
/-- What the call leaves. -/
def SidePost (ms : List Int) (p : Int) (w : World) (e : Ending) (w' : World) : Prop :=
  ∃ b1 b2 rb, e = .returned (.func (.func 89) #[] #[.pointer (some ⟨b2, 0, none⟩), .pointer (some ⟨b1, 0, none⟩)]) ∧ SidR w.heap.size w'.heap.size b1 b2 rb p ms w' ∧ Below w.heap.size w w'
set_option maxRecDepth 100000 in
set_option maxHeartbeats 2000000 in
theorem gside_any {w : World} {a : Option Addr} {b off len cap : Nat} {ms : List Int} (hm : IntsAt .i64 w.heap.size w a b off len ms) (h0 : a = none → len = 0 ∧ cap = 0) (hlen : len ≤ 60000) (p : Int) :
    Calls Try.prog 68 #[.slice a len cap, .int .i64 p] w (SidePost ms p w) := by
  have b0 : Below w.heap.size w (w.alloc (.cells #[.int .i64 p] 3)) := (Below.refl _ w).alloc (Nat.le_refl _) _
  have hbp : Boxed (w.alloc (.cells #[.int .i64 p] 3)) w.heap.size 3 (.int .i64 p) := Boxed.new w 3 _
  have hz0 : (w.alloc (.cells #[.int .i64 p] 3)).heap.size = w.heap.size + 1 := World.size_alloc _ _
  have HC := Lib.hid (cloneI_any (cap := cap) (hm.kept b0 (Nat.le_refl _)) h0 (by omega))
  have HB := Lib.hid b0
  have HBP := Lib.hid hbp
  have HL := Lib.hid hm.length
  have hlen2 := hlen
  clear hm h0 b0 hbp
  go_enter Try.func68, Try.ntmps68
  go_wp2_with fail
  generalize w.alloc (.cells #[.int .i64 p] 3) = w0 at *
  refine HC.out.mono ?_
  rintro e w1 ⟨a1, b1, cap1, rfl, hc1, hI1, hb1, hB1, hn1, ht1⟩
  have hb := HB.out.trans (hB1.mono (by omega))
  have hz := hB1.size
  have HF : Hid (SidR w.heap.size (w1.alloc (.cells #[.slice a1 ms.length cap1] 24)).heap.size w.heap.size w1.heap.size b1 p ms (w1.alloc (.cells #[.slice a1 ms.length cap1] 24))) := Lib.hid (by
    refine ⟨(show Boxed w1 w.heap.size 3 (.int .i64 p) from (hB1.block _ (by omega)).trans HBP.out).alloc _, ⟨a1, cap1, Boxed.new w1 _ _, hI1.addr⟩, ?_, ⟨Nat.le_refl _, by simp; omega⟩, ⟨by omega, by simp⟩, ?_, by rw [HL.out]; omega⟩
    · by_cases e : ms.length = 0
      · exact .inl e
      · obtain ⟨cur, h1⟩ := ht1.resolve_left e
        refine .inr ⟨cur, heap_alloc h1 _, fun i hi => ?_⟩
        have := hI1.cell i hi
        rw [Nat.zero_add] at this
        simpa [World.cell?, h1] using this
    · by_cases e : ms.length = 0
      · exact .inl e
      · have h2 := hb1.resolve_left e
        obtain ⟨cur, h1⟩ := ht1.resolve_left e
        have := heap_lt h1
        exact .inr ⟨by omega, by simp; omega⟩)
  have HBB := Lib.hid (hb.alloc hb.size (.cells #[.slice a1 ms.length cap1] 24))
  clear HC HB HBP hc1 hI1 hb1 hB1 hn1 ht1 hb hz
  go_wp2
  go_ret
  exact ⟨_, _, _, rfl, HF.out, HBB.out⟩
end Go.Proofs.Ytepmgjohjeiopaa

namespace Go.Proofs.Ytepmgjohjeiopaa.L12
open Go.RowKit Go.Shelf Rk

attribute [local go_sem] Oper.semAt_some

theorem boxed_alloc1 (w : World) (u : Value) (t : TypeId) {w1 : World} (hb : Below (w.heap.size + 1) (w.alloc (.cells #[u] t)) w1) : Boxed w1 w.heap.size t u :=
  (hb.block w.heap.size (by omega)).trans (Boxed.new w t u)
theorem boxed_alloc3 (w : World) (u : Value) (t : TypeId) (o2 o3 : Obj) {w1 : World} (hb : Below (w.heap.size + 1 + 1 + 1) (((w.alloc (.cells #[u] t)).alloc o2).alloc o3) w1) : Boxed w1 w.heap.size t u :=
  (hb.block w.heap.size (by omega)).trans (((Boxed.new w t u).alloc o2).alloc o3)
theorem boxed_alloc4 (w : World) (u : Value) (t : TypeId) (o2 o3 o4 : Obj) {w1 : World} (hb : Below (w.heap.size + 1 + 1 + 1 + 1) ((((w.alloc (.cells #[u] t)).alloc o2).alloc o3).alloc o4) w1) : Boxed w1 w.heap.size t u :=
  (hb.block w.heap.size (by omega)).trans ((((Boxed.new w t u).alloc o2).alloc o3).alloc o4)
def ints (l : List Int) : List Value := l.map fun x => .int .i64 x
theorem ints_snoc (l : List Int) (x : Int) : ints (l ++ [x]) = ints l ++ [.int .i64 x] := by unfold ints; rw [List.map_append]; rfl
def ListPost (w : World) (ys : List Int) (e : Ending) (w' : World) : Prop :=
  ∃ v, e = .returned v ∧ Gath w' w.heap.size 3 1 v ys.length (ints ys) ∧ Below w.heap.size w w'
set_option maxRecDepth 100000 in
theorem none_any {w : World} {a : Option Addr} {len cap : Nat} (k m : Int) (hm : m ≤ 0) : Calls Try.prog 36 #[.slice a len cap, .int .i64 k, .int .i64 m] w (ListPost w []) := by
  have hd : decide (m ≤ 0) = true := by simpa using hm
  refine (callsIn_wide (n := 3)).1 ?_
  refine callsIn_of_wp_marks Try.func36 rfl trivial ?_ rfl
  simp only [Try.ntmps36, List.size_toArray, List.length_cons, List.length_nil, Nat.reduceAdd, Nat.reduceSub, Array.replicate_succ, Array.replicate_zero, List.push_toArray, List.append_toArray, List.nil_append, List.cons_append]
  gi_wp2
  exact ⟨.slice (some ⟨w.heap.size + 1 + 1, 0, none⟩) 0 0, by simp [results, Try.f36, go_sem], _, rfl, .inl ⟨rfl, rfl, _, rfl⟩, ((((Below.refl _ w).alloc (Nat.le_refl _) _).alloc (by simp) _).alloc (by simp; omega) _).alloc (by simp; omega) _⟩
set_option maxRecDepth 100000 in
set_option maxHeartbeats 2000000 in
theorem some_any {w : World} {a : Option Addr} {b off len cap : Nat} {ms : List Int} (hms : IntsAt .i64 w.heap.size w a b off len ms) (h0 : a = none → len = 0 ∧ cap = 0) (hlen : len ≤ 60000) (k : Int) (m : Nat) (hm1 : 1 ≤ m) (hm : m ≤ 100000) :
    Calls Try.prog 36 #[.slice a len cap, .int .i64 k, .int .i64 (m : Int)] w (ListPost w ((sideL ms k ms.length).take m)) := by
  obtain ⟨i0, hi, hz0, hz1, hz2⟩ := info_parts Try.infoInt
  have HI := Lib.hid hi
  have HZ0 := Lib.hid hz0
  have HZ1 := Lib.hid hz1
  have HZ2 := Lib.hid hz2
  clear hi hz0 hz1 hz2
  have hd : decide ((m : Int) ≤ 0) = false := by simp; omega
  have b0 : Below w.heap.size w ((((w.alloc (.cells #[.int .i64 (m : Int)] 3)).alloc (.cells #[.slice none 0 0] 24)).alloc (.cells #[] 3)).alloc (.cells #[.slice (some ⟨w.heap.size + 1 + 1, 0, none⟩) 0 0] 24)) := ((((Below.refl _ w).alloc (Nat.le_refl _) _).alloc (by simp) _).alloc (by simp; omega) _).alloc (by simp; omega) _
  have HLl := hms.length
  have HALL := Lib.hid (gside_any (cap := cap) ((hms.kept b0 (Nat.le_refl _)).mono b0.size) h0 hlen k)
  have HB0 := Lib.hid b0
  have hDl : (sideL ms k ms.length).length ≤ 1000000 := Nat.le_trans (sideL_length _ _ _) (by omega)
  obtain ⟨D, hDD⟩ : ∃ D, sideL ms k ms.length = D := ⟨_, rfl⟩
  rw [hDD] at hDl ⊢
  clear hms b0 h0
  refine (callsIn_wide (n := 3)).1 ?_
  refine callsIn_of_wp_marks Try.func36 rfl trivial ?_ rfl
  simp only [Try.ntmps36, List.size_toArray, List.length_cons, List.length_nil, Nat.reduceAdd, Nat.reduceSub, Array.replicate_succ, Array.replicate_zero, List.push_toArray, List.append_toArray, List.nil_append, List.cons_append]
  gi_wp2_with (refine ⟨trivial, ?_⟩; gi_at_call 68; refine (callsIn_wide.2 HALL.out).mono ?_; rintro e w1 ⟨b1, b2, mb, rfl, hE, hB1⟩)
  have hsz := hB1.size
  simp only [World.size_alloc] at hsz hB1 hE
  have hB := HB0.out.trans (hB1.mono (by omega))
  have bM := boxed_alloc4 w (.int .i64 (m : Int)) 3 (.cells #[.slice none 0 0] 24) (.cells #[] 3) (.cells #[.slice (some ⟨w.heap.size + 1 + 1, 0, none⟩) 0 0] 24) hB1
  have bR := boxed_alloc3 (w.alloc (.cells #[.int .i64 (m : Int)] 3)) (.slice none 0 0) 24 (.cells #[] 3) (.cells #[.slice (some ⟨w.heap.size + 1 + 1, 0, none⟩) 0 0] 24) (w1 := w1) (by simpa using hB1)
  have bO := boxed_alloc1 (((w.alloc (.cells #[.int .i64 (m : Int)] 3)).alloc (.cells #[.slice none 0 0] 24)).alloc (.cells #[] 3)) (.slice (some ⟨w.heap.size + 1 + 1, 0, none⟩) 0 0) 24 (w1 := w1) (by simpa using hB1)
  simp only [World.size_alloc] at bR bO
  have hst := (side1_in 2 (by omega) w1 hE (Nat.le_refl _)).stops
  clear hB1
  have hC0 : Coll w.heap.size (w.heap.size + 1 + 1 + 1 + 1) w1.heap.size w.heap.size (w.heap.size + 1) (w.heap.size + 1 + 1 + 1) 3 24 3 (.int .i64 (m : Int)) (.slice none 0 0) w 0 [] w1 (.slice (some ⟨w.heap.size + 1 + 1, 0, none⟩) 0 0) :=
    ⟨bO, .inl ⟨rfl, rfl, _, rfl⟩, bM, bR, hB, Nat.le_refl _⟩
  rw [hDD] at hst
  refine wpIn_rangeFunc_ownG rfl (by omega) (gf := 89) (lb := #[.pointer (some ⟨b2, 0, none⟩), .pointer (some ⟨b1, 0, none⟩)]) rfl trivial (enters_of Try.func89 (by kernel_rfl) rfl)
    hst Mid.trans (Mid.putObj (Nat.le_refl _)) (Below.refl _ _) (fun _ => rfl)
    (fun pre W => pre.length < m ∧ CollI w.heap.size (w.heap.size + 1 + 1 + 1 + 1) w1.heap.size w.heap.size (w.heap.size + 1) (w.heap.size + 1 + 1 + 1) 3 24 3 (.int .i64 (m : Int)) (.slice none 0 0) w pre.length (ints pre) W)
    (fun c pre W => c = .ret ∧ pre.length = m ∧ ∃ v, Boxed W (w.heap.size + 1) 24 v ∧ Gath W w1.heap.size 3 1 v pre.length (ints pre) ∧ Below w.heap.size w W)
    (fun s A B row hs hg hr => ⟨hs.1, hs.2.elim fun v hC => ⟨v, hC.turned (by omega) (Nat.le_refl _) hg hr⟩⟩)
    (fun c s A B row hs hg hr => by
      obtain ⟨hc, e1, v, e3, e4, e5⟩ := hs
      exact ⟨hc, e1, v, boxed_kept e3 hg (fun r e => (hr r e).2), gath_kept e4 hg (fun r e => (hr r e).2), e5.grown hg e5.size (fun r e => by have := (hr r e).1; omega)⟩)
    ⟨by show 0 < m; omega, _, hC0⟩
    ?_ ?assign ?body ?done ?stop
  case assign =>
    intro l x W K hK
    unfold enc1
    gi_wp2
    exact hK
  case body =>
    rintro l pre x W ⟨hpm, v, hC⟩ hltz
    obtain ⟨a6, cap6, rfl⟩ := hC.row.slice
    have c1 := hC.box.cell
    have c2 := hC.boxM.cell
    have c3 := hC.boxR.cell
    have f3 := hC.boxR.frozen
    have HC := Lib.hid hC
    have hszW := hC.size
    clear hC hC0 bM bR bO hB hst hE
    by_cases hme : pre.length + 1 = m
    · have hmb : ((pre.length : Int) + 1 == (m : Int)) = true := by simp; omega
      have HM := Lib.hid hme
      clear hme
      gi_wp2_with (gi_at_builtin; refine wpListIn_append_gath _ rfl _ _ 24 rfl w1.heap.size 3 i0 (.int .i64 0) 1 8 Try.underlying24 HI.out HZ0.out HZ1.out HZ2.out rfl (by decide) _ _ _ rfl (HC.out.row.alloc _) ⟨W.heap.size, 0, none⟩ 1 1 [.int .i64 x] rfl rfl (cell_one _ _ _) (one_val rfl) (by decide) (by unfold maxLen; omega) (by omega) (by simp; omega) ?_; intro v' w3 row hown hgrow hrow; obtain ⟨g', cap', rfl⟩ := ownsRow_succ hown; obtain ⟨hb1, hC1, hk1, hm1⟩ := HC.out.appended (by omega) (by omega) (by omega) (by omega) (by omega) (by omega) (by omega) hown hgrow hrow; have hc1 := hb1.cell; have hf1 := hb1.frozen; clear c1 c2 c3 f3; have c1 := hC1.box.cell; have c2 := hC1.boxM.cell; have c3 := hC1.boxR.cell; have f3 := hC1.boxR.frozen)
      refine ⟨(hk1.trans (KeepsOthers.setCell _ _ _)).from _, rfl, by rw [List.length_append]; exact HM.out, .slice (some ⟨g', 0, none⟩) (pre.length + 1) cap', hC1.boxR.set _, ?_, hC1.below.setCell (p := ⟨w.heap.size + 1, 0, none⟩) (by show w.heap.size ≤ w.heap.size + 1; omega) _⟩
      rw [List.length_append, ints_snoc]
      exact gath_set hC1.row (by omega) _
    · have hmb : ((pre.length : Int) + 1 == (m : Int)) = false := by simp; omega
      have hpl : pre.length + 1 < m := by omega
      clear hme
      gi_wp2_with (gi_at_builtin; refine wpListIn_append_gath _ rfl _ _ 24 rfl w1.heap.size 3 i0 (.int .i64 0) 1 8 Try.underlying24 HI.out HZ0.out HZ1.out HZ2.out rfl (by decide) _ _ _ rfl (HC.out.row.alloc _) ⟨W.heap.size, 0, none⟩ 1 1 [.int .i64 x] rfl rfl (cell_one _ _ _) (one_val rfl) (by decide) (by unfold maxLen; omega) (by omega) (by simp; omega) ?_; intro v' w3 row hown hgrow hrow; obtain ⟨g', cap', rfl⟩ := ownsRow_succ hown; obtain ⟨hb1, hC1, hk1, hm1⟩ := HC.out.appended (by omega) (by omega) (by omega) (by omega) (by omega) (by omega) (by omega) hown hgrow hrow; have hc1 := hb1.cell; have hf1 := hb1.frozen; clear c1 c2 c3 f3; have c1 := hC1.box.cell; have c2 := hC1.boxM.cell)
      refine ⟨hk1.from _, hm1, by rw [List.length_append]; exact hpl, .slice (some ⟨g', 0, none⟩) (pre.length + 1) cap', ?_⟩
      rw [List.length_append, ints_snoc]
      exact hC1
  case done =>
    rintro E ys W hD rfl ⟨hpm, v, hC⟩ hK
    obtain ⟨a6, cap6, rfl⟩ := hC.row.slice
    have c1 := hC.box.cell
    have c3 := hC.boxR.cell
    have f3 := hC.boxR.frozen
    have HC := Lib.hid hC
    clear hC hC0 bM bR bO hB hst hE
    gi_wp2
    have hK' := (KeepsOthers.setCell W ⟨w.heap.size + 1, 0, none⟩ (.slice a6 ys.length cap6)).same E _ hK rfl
    refine ⟨by simp, .inl ⟨_, _, rfl, run_takeDeferred hK', ?_⟩⟩
    have hc5 := cell_kept (HC.out.boxR.set (.slice a6 ys.length cap6)).cell (grownBy_putObj' _ E (.deferred none)) (fun r e => by cases e; exact ⟨_, hK', rfl⟩)
    refine ⟨.slice a6 ys.length cap6, ?_, _, rfl, ?_, ?_⟩
    · simp [results, Try.f36, go_sem, hc5]
    · rw [List.take_of_length_le (by omega)]
      exact gath_putObj (gath_base (gath_set HC.out.row (by omega) _) (by omega)) _ hK' rfl
    · exact (HC.out.below.setCell (p := ⟨w.heap.size + 1, 0, none⟩) (by show w.heap.size ≤ w.heap.size + 1; omega) _).trans (belowK_b (w := w) (Nat.le_refl _) _ E _ _ (by omega) hK' rfl rfl)
  case stop =>
    rintro E c pre W hD hpre ⟨rfl, hil, v, hbR, hg, hbel⟩ hK
    obtain ⟨a6, cap6, rfl⟩ := hg.slice
    gi_wp2
    refine ⟨by simp, .inl ⟨_, _, rfl, run_takeDeferred hK, ?_⟩⟩
    have hc5 := cell_kept hbR.cell (grownBy_putObj' _ E (.deferred none)) (fun r e => by cases e; exact ⟨_, hK, rfl⟩)
    have htk : D.take m = pre := by
      obtain ⟨t, ht⟩ := hpre
      rw [← ht, ← hil, List.take_left]
    refine ⟨.slice a6 pre.length cap6, ?_, _, rfl, ?_, ?_⟩
    · simp [results, Try.f36, go_sem, hc5]
    · rw [htk]
      exact gath_putObj (gath_base hg (by omega)) _ hK rfl
    · exact hbel.trans (belowK_b (w := w) (Nat.le_refl _) _ E _ _ (by omega) hK rfl rfl)
/-- Whatever number is asked for. -/
theorem lside_any {w : World} {a : Option Addr} {b off len cap : Nat} {ms : List Int} (hms : IntsAt .i64 w.heap.size w a b off len ms) (h0 : a = none → len = 0 ∧ cap = 0) (hlen : len ≤ 60000) (k : Int) (m : Int) (hm : m ≤ 100000) :
    Calls Try.prog 36 #[.slice a len cap, .int .i64 k, .int .i64 m] w (ListPost w ((sideL ms k ms.length).take m.toNat)) := by
  by_cases h : m ≤ 0
  · rw [show m.toNat = 0 by omega]
    exact none_any k m h
  · have := some_any (cap := cap) hms h0 hlen k m.toNat (by omega) (by omega)
    rwa [show ((m.toNat : Nat) : Int) = m by omega] at this
end Go.Proofs.Ytepmgjohjeiopaa.L12
