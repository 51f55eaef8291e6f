/- Contracts: up to so many of the numbers, or places, that stand in bytes. -/
import Derived.Test.YtiajpffdnjeafaaVg
import Derived.Test.YtiajpffdnjeafaaCol
set_option linter.unusedVariables false
namespace Go.Proofs.Ytiajpffdnjeafaa
open Go.RowKit Go.Shelf

attribute [local go_sem] Oper.semAt_some

theorem Try.infoU64 : (Try.prog.info? 34).map (fun i => (i.zero, i.size, i.bytes)) = some (some (.int .u64 0), 1, 8) := by kernel_rfl

/-- The function that All hands back, as a loop over it asks. -/
theorem all_stops (n : Nat) (hn : 1 ≤ n) (Bx lo hi b cap : Nat) (a : Option Addr) (zs : List Int) (w : World) (hhi : hi ≤ w.heap.size) (hBx : w.cell? ⟨Bx, 0, none⟩ = some (.slice a zs.length cap)) (hBl : lo ≤ Bx) (hBn : Bx < hi) (hcap : zs.length ≤ cap) (hsm : zs.length ≤ 65536)
    (hI : IntsAt .u8 hi w a b 0 zs.length zs) (hb : zs.length = 0 ∨ lo ≤ b) :
    SeqStopsK Fence.wide n Try.prog 49 #[.pointer (some ⟨Bx, 0, none⟩)] (fun x : Nat × Nat => #[Value.int .i64 (x.1 : Int), Value.int .u64 (x.2 : Int)]) (Mid lo hi) (fun ys => ys = itemsF zs) (fun pre => pre <+: itemsF zs) zs.length w := fun l J Jx W hW _ _ hY h0 =>
  all1_in n hn l Bx lo hi b cap a zs J Jx hY W ((hW.cell (p := ⟨Bx, 0, none⟩) (by show Bx < w.heap.size; omega)).trans hBx) hBl hBn hcap hsm (hI.kept hW (by omega)) hb h0

theorem boxed_alloc1 (w : World) (u : Value) (t : TypeId) {w1 : World} (hb : Below (w.heap.size + 1) (w.alloc (.cells #[u] t)) w1) : Boxed w1 w.heap.size t u :=
  (hb.block w.heap.size (by omega)).trans (Boxed.new w t u)
theorem boxed_alloc3 (w : World) (u : Value) (t : TypeId) (o2 o3 : Obj) {w1 : World} (hb : Below (w.heap.size + 1 + 1 + 1) (((w.alloc (.cells #[u] t)).alloc o2).alloc o3) w1) : Boxed w1 w.heap.size t u :=
  (hb.block w.heap.size (by omega)).trans (((Boxed.new w t u).alloc o2).alloc o3)
theorem boxed_alloc4 (w : World) (u : Value) (t : TypeId) (o2 o3 o4 : Obj) {w1 : World} (hb : Below (w.heap.size + 1 + 1 + 1 + 1) ((((w.alloc (.cells #[u] t)).alloc o2).alloc o3).alloc o4) w1) : Boxed w1 w.heap.size t u :=
  (hb.block w.heap.size (by omega)).trans ((((Boxed.new w t u).alloc o2).alloc o3).alloc o4)
def nums (pre : List (Nat × Nat)) : List Value := pre.map fun x => .int .u64 (x.2 : Int)
theorem nums_snoc (pre : List (Nat × Nat)) (x : Nat × Nat) : nums (pre ++ [x]) = nums pre ++ [.int .u64 (x.2 : Int)] := by unfold nums; rw [List.map_append]; rfl

def ListPost (w : World) (tE : TypeId) (ys : List (Nat × Nat)) (f : List (Nat × Nat) → List Value) (e : Ending) (w' : World) : Prop :=
  ∃ v, e = .returned v ∧ Gath w' w.heap.size tE 1 v ys.length (f ys) ∧ Below w.heap.size w w'

set_option maxRecDepth 100000 in
set_option maxHeartbeats 2000000 in
theorem list_any {B : Nat} {w : World} {a : Option Addr} {b off len cap : Nat} {zs : List Int} (m : Nat) (h : IntsAt .u8 B w a b off len zs) (h0 : a = none → len = 0 ∧ cap = 0) (hcap : len ≤ 65536) (hm : m ≤ 65536) (hB : B ≤ w.heap.size) :
    Calls Try.prog 39 #[.slice a len cap, .int .i64 m] w (ListPost w 34 ((itemsF zs).take m) nums) := by
  obtain ⟨i0, hi, hz0, hz1, hz2⟩ := info_parts Try.infoU64
  have HI := Lib.hid hi
  have HZ0 := Lib.hid hz0
  have HZ1 := Lib.hid hz1
  have HZ2 := Lib.hid hz2
  clear hi hz0 hz1 hz2
  have HALL := Lib.hid (fun W hbel => all_any (h.kept (w' := W) (B' := w.heap.size) hbel hB) h0 hcap)
  have hzl : zs.length ≤ 65536 := by rw [h.length]; exact hcap
  clear h h0
  refine (callsIn_wide (n := 3)).1 ?_
  refine callsIn_of_wp_marks Try.func39 rfl trivial ?_ rfl
  simp only [Try.ntmps39, List.size_toArray, List.length_cons, List.length_nil, Nat.reduceAdd, Nat.reduceSub, Array.replicate_succ, Array.replicate_zero, List.push_toArray, List.append_toArray, List.nil_append, List.cons_append]
  gi_wp2_with (refine ⟨trivial, ?_⟩; gi_at_call 47; refine (callsIn_wide.2 (HALL.out _ (((((Below.refl _ w).alloc (Nat.le_refl _) _).alloc (by simp) _).alloc (by simp; omega) _).alloc (by simp; omega) _))).mono ?_; rintro e w1 ⟨Bx, a5, b5, cap5, rfl, hBx, hc5, hlt, hlx, hI, hlb, hB1⟩)
  have hsz := hB1.size
  simp only [World.size_alloc] at hsz hlx hlb hB1
  have hB0 : Below w.heap.size w w1 := (((((Below.refl _ w).alloc (Nat.le_refl _) _).alloc (by simp) _).alloc (by simp; omega) _).alloc (by simp; omega) _).trans (hB1.mono (by omega))
  have bM := boxed_alloc4 w (.int .i64 m) 3 (.cells #[.slice none 0 0] 47) (.cells #[] 34) (.cells #[.slice (some ⟨w.heap.size + 1 + 1, 0, none⟩) 0 0] 47) hB1
  have bR := boxed_alloc3 (w.alloc (.cells #[.int .i64 m] 3)) (.slice none 0 0) 47 (.cells #[] 34) (.cells #[.slice (some ⟨w.heap.size + 1 + 1, 0, none⟩) 0 0] 47) (w1 := w1) (by simpa using hB1)
  have bO := boxed_alloc1 (((w.alloc (.cells #[.int .i64 m] 3)).alloc (.cells #[.slice none 0 0] 47)).alloc (.cells #[] 34)) (.slice (some ⟨w.heap.size + 1 + 1, 0, none⟩) 0 0) 47 (w1 := w1) (by simpa using hB1)
  simp only [World.size_alloc] at bR bO
  clear hB1
  have hC0 : Coll w.heap.size (w.heap.size + 1 + 1 + 1 + 1) w1.heap.size w.heap.size (w.heap.size + 1) (w.heap.size + 1 + 1 + 1) 3 47 34 (.int .i64 m) (.slice none 0 0) w 0 [] w1 (.slice (some ⟨w.heap.size + 1 + 1, 0, none⟩) 0 0) :=
    ⟨bO, .inl ⟨rfl, rfl, _, rfl⟩, bM, bR, hB0, Nat.le_refl _⟩
  have hit := itemsGo_length zs.length zs 0
  refine wpIn_rangeFunc_ownG rfl (by omega) (gf := 49) (lb := #[.pointer (some ⟨Bx, 0, none⟩)]) rfl trivial (enters_of Try.func49 (by kernel_rfl) rfl)
    (all_stops 2 (by omega) Bx (w.heap.size + 1 + 1 + 1 + 1) w1.heap.size b5 cap5 a5 zs w1 (Nat.le_refl _) hBx hlx hlt hc5 (by omega) hI hlb) Mid.trans (Mid.putObj (Nat.le_refl _)) (Below.refl _ _) (fun _ => rfl)
    (fun pre W => pre.length ≤ m ∧ CollI w.heap.size (w.heap.size + 1 + 1 + 1 + 1) w1.heap.size w.heap.size (w.heap.size + 1) (w.heap.size + 1 + 1 + 1) 3 47 34 (.int .i64 m) (.slice none 0 0) w pre.length (nums pre) W)
    (fun c pre W => c = .ret ∧ ∃ ini last v, pre = ini ++ [last] ∧ ini.length = m ∧ Boxed W (w.heap.size + 1) 47 v ∧ Gath W w1.heap.size 34 1 v ini.length (nums ini) ∧ Below w.heap.size w W)
    (fun s A B row hs hg hr => ⟨hs.1, hs.2.elim fun v hC => ⟨v, hC.turned (by omega) (Nat.le_refl _) hg hr⟩⟩)
    (fun c s A B row hs hg hr => by
      obtain ⟨hc, ini, last, v, e1, e2, e3, e4, e5⟩ := hs
      exact ⟨hc, ini, last, v, e1, e2, boxed_kept e3 hg (fun r e => (hr r e).2), gath_kept e4 hg (fun r e => (hr r e).2), e5.grown hg e5.size (fun r e => by have := (hr r e).1; omega)⟩)
    ⟨Nat.zero_le _, _, hC0⟩
    (fun x => { tmps := #[.slice a len cap, .int .i64 m, undef, .pointer (some ⟨w.heap.size, 0, none⟩), .pointer (some ⟨w.heap.size + 1, 0, none⟩), .pointer (some ⟨w.heap.size + 1 + 1 + 1, 0, none⟩), undef, .int .u64 (x.2 : Int), .slice (some ⟨w.heap.size + 1 + 1, 0, none⟩) 0 0, .slice a len cap, .func (.func 49) #[] #[.pointer (some ⟨Bx, 0, none⟩)], .int .i64 (x.1 : Int), .int .u64 (x.2 : Int), undef, undef, undef, undef, undef, undef, undef, undef, undef, undef], defers := [] }) ?assign ?body ?done ?stop
  case assign =>
    intro l x W K hK
    gi_wp2
    exact hK
  case body =>
    rintro l pre x W ⟨hpm, v, hC⟩ hltz
    obtain ⟨a6, cap6, rfl⟩ := hC.row.slice
    have c1 := hC.box.cell
    have c2 := hC.boxM.cell
    have c3 := hC.boxR.cell
    have f3 := hC.boxR.frozen
    have HC := Lib.hid hC
    have hszW := hC.size
    clear hC hC0 bM bR bO hI hBx hB0
    by_cases hme : pre.length = m
    · have hmb : ((pre.length : Int) == (m : Int)) = true := by simp; omega
      have HM := Lib.hid hme
      clear hme
      gi_wp2
      refine ⟨(KeepsOthers.setCell _ _ _).from _, rfl, pre, x, _, rfl, HM.out, HC.out.boxR.set _, gath_set HC.out.row (by omega) _, HC.out.below.setCell (p := ⟨w.heap.size + 1, 0, none⟩) (by show w.heap.size ≤ w.heap.size + 1; omega) _⟩
    · have hmb : ((pre.length : Int) == (m : Int)) = false := by simp; omega
      have hpl : pre.length < m := by omega
      clear hme
      gi_wp2_with (gi_at_builtin; refine wpListIn_append_gath _ rfl _ _ 47 rfl w1.heap.size 34 i0 (.int .u64 0) 1 8 Try.underlying47 HI.out HZ0.out HZ1.out HZ2.out rfl (by decide) _ _ _ rfl (HC.out.row.alloc _) ⟨W.heap.size, 0, none⟩ 1 1 [.int .u64 (x.2 : Int)] rfl rfl (cell_one _ _ _) (one_val rfl) (by decide) (by unfold maxLen; omega) (by omega) (by simp; omega) ?_; intro v' w3 row hown hgrow hrow; obtain ⟨g', cap', rfl⟩ := ownsRow_succ hown; obtain ⟨hb1, hC1, hk1, hm1⟩ := HC.out.appended (by omega) (by omega) (by omega) (by omega) (by omega) (by omega) (by omega) hown hgrow hrow; have hc1 := hb1.cell; have hf1 := hb1.frozen)
      refine ⟨hk1.from _, hm1, by rw [List.length_append]; exact hpl, .slice (some ⟨g', 0, none⟩) (pre.length + 1) cap', ?_⟩
      rw [List.length_append, nums_snoc]
      exact hC1
  case done =>
    rintro D ys W hD rfl ⟨hpm, v, hC⟩ hK
    obtain ⟨a6, cap6, rfl⟩ := hC.row.slice
    have c1 := hC.box.cell
    have c3 := hC.boxR.cell
    have f3 := hC.boxR.frozen
    have HC := Lib.hid hC
    clear hC hC0 bM bR bO hI hBx hB0
    gi_wp2
    have hK' := (KeepsOthers.setCell W ⟨w.heap.size + 1, 0, none⟩ (.slice a6 (itemsF zs).length cap6)).same D _ hK rfl
    refine ⟨by simp, .inl ⟨_, _, rfl, run_takeDeferred hK', ?_⟩⟩
    have hc5 := cell_kept (HC.out.boxR.set (.slice a6 (itemsF zs).length cap6)).cell (grownBy_putObj' _ D (.deferred none)) (fun r e => by cases e; exact ⟨_, hK', rfl⟩)
    refine ⟨.slice a6 (itemsF zs).length cap6, ?_, _, rfl, ?_, ?_⟩
    · simp [results, Try.f39, go_sem, hc5]
    · rw [List.take_of_length_le hpm]
      exact gath_putObj (gath_base (gath_set HC.out.row (by omega) _) (by omega)) _ hK' rfl
    · exact (HC.out.below.setCell (p := ⟨w.heap.size + 1, 0, none⟩) (by show w.heap.size ≤ w.heap.size + 1; omega) _).trans (belowK_b (w := w) (Nat.le_refl _) _ D _ _ (by omega) hK' rfl rfl)
  case stop =>
    rintro D c pre W hD hpre ⟨rfl, ini, last, v, rfl, hil, hbR, hg, hbel⟩ hK
    obtain ⟨a6, cap6, rfl⟩ := hg.slice
    gi_wp2
    refine ⟨by simp, .inl ⟨_, _, rfl, run_takeDeferred hK, ?_⟩⟩
    have hc5 := cell_kept hbR.cell (grownBy_putObj' _ D (.deferred none)) (fun r e => by cases e; exact ⟨_, hK, rfl⟩)
    have htk : (itemsF zs).take m = ini := by
      obtain ⟨t, ht⟩ := hpre
      rw [← ht, List.append_assoc, ← hil, List.take_left]
    refine ⟨.slice a6 ini.length cap6, ?_, _, rfl, ?_, ?_⟩
    · simp [results, Try.f39, go_sem, hc5]
    · rw [htk]
      exact gath_putObj (gath_base hg (by omega)) _ hK rfl
    · exact hbel.trans (belowK_b (w := w) (Nat.le_refl _) _ D _ _ (by omega) hK rfl rfl)
theorem Try.infoInt : (Try.prog.info? 3).map (fun i => (i.zero, i.size, i.bytes)) = some (some (.int .i64 0), 1, 8) := by kernel_rfl
def plcs (pre : List (Nat × Nat)) : List Value := pre.map fun x => .int .i64 (x.1 : Int)
theorem plcs_snoc (pre : List (Nat × Nat)) (x : Nat × Nat) : plcs (pre ++ [x]) = plcs pre ++ [.int .i64 (x.1 : Int)] := by unfold plcs; rw [List.map_append]; rfl
set_option maxRecDepth 100000 in
set_option maxHeartbeats 2000000 in
theorem places_any {B : Nat} {w : World} {a : Option Addr} {b off len cap : Nat} {zs : List Int} (m : Nat) (h : IntsAt .u8 B w a b off len zs) (h0 : a = none → len = 0 ∧ cap = 0) (hcap : len ≤ 65536) (hm : m ≤ 65536) (hB : B ≤ w.heap.size) :
    Calls Try.prog 41 #[.slice a len cap, .int .i64 m] w (ListPost w 3 ((itemsF zs).take m) plcs) := by
  obtain ⟨i0, hi, hz0, hz1, hz2⟩ := info_parts Try.infoInt
  have HI := Lib.hid hi
  have HZ0 := Lib.hid hz0
  have HZ1 := Lib.hid hz1
  have HZ2 := Lib.hid hz2
  clear hi hz0 hz1 hz2
  have HALL := Lib.hid (fun W hbel => all_any (h.kept (w' := W) (B' := w.heap.size) hbel hB) h0 hcap)
  have hzl : zs.length ≤ 65536 := by rw [h.length]; exact hcap
  clear h h0
  refine (callsIn_wide (n := 3)).1 ?_
  refine callsIn_of_wp_marks Try.func41 rfl trivial ?_ rfl
  simp only [Try.ntmps41, List.size_toArray, List.length_cons, List.length_nil, Nat.reduceAdd, Nat.reduceSub, Array.replicate_succ, Array.replicate_zero, List.push_toArray, List.append_toArray, List.nil_append, List.cons_append]
  gi_wp2_with (refine ⟨trivial, ?_⟩; gi_at_call 47; refine (callsIn_wide.2 (HALL.out _ (((((Below.refl _ w).alloc (Nat.le_refl _) _).alloc (by simp) _).alloc (by simp; omega) _).alloc (by simp; omega) _))).mono ?_; rintro e w1 ⟨Bx, a5, b5, cap5, rfl, hBx, hc5, hlt, hlx, hI, hlb, hB1⟩)
  have hsz := hB1.size
  simp only [World.size_alloc] at hsz hlx hlb hB1
  have hB0 : Below w.heap.size w w1 := (((((Below.refl _ w).alloc (Nat.le_refl _) _).alloc (by simp) _).alloc (by simp; omega) _).alloc (by simp; omega) _).trans (hB1.mono (by omega))
  have bM := boxed_alloc4 w (.int .i64 m) 3 (.cells #[.slice none 0 0] 48) (.cells #[] 3) (.cells #[.slice (some ⟨w.heap.size + 1 + 1, 0, none⟩) 0 0] 48) hB1
  have bR := boxed_alloc3 (w.alloc (.cells #[.int .i64 m] 3)) (.slice none 0 0) 48 (.cells #[] 3) (.cells #[.slice (some ⟨w.heap.size + 1 + 1, 0, none⟩) 0 0] 48) (w1 := w1) (by simpa using hB1)
  have bO := boxed_alloc1 (((w.alloc (.cells #[.int .i64 m] 3)).alloc (.cells #[.slice none 0 0] 48)).alloc (.cells #[] 3)) (.slice (some ⟨w.heap.size + 1 + 1, 0, none⟩) 0 0) 48 (w1 := w1) (by simpa using hB1)
  simp only [World.size_alloc] at bR bO
  clear hB1
  have hC0 : Coll w.heap.size (w.heap.size + 1 + 1 + 1 + 1) w1.heap.size w.heap.size (w.heap.size + 1) (w.heap.size + 1 + 1 + 1) 3 48 3 (.int .i64 m) (.slice none 0 0) w 0 [] w1 (.slice (some ⟨w.heap.size + 1 + 1, 0, none⟩) 0 0) :=
    ⟨bO, .inl ⟨rfl, rfl, _, rfl⟩, bM, bR, hB0, Nat.le_refl _⟩
  have hit := itemsGo_length zs.length zs 0
  refine wpIn_rangeFunc_ownG rfl (by omega) (gf := 49) (lb := #[.pointer (some ⟨Bx, 0, none⟩)]) rfl trivial (enters_of Try.func49 (by kernel_rfl) rfl)
    (all_stops 2 (by omega) Bx (w.heap.size + 1 + 1 + 1 + 1) w1.heap.size b5 cap5 a5 zs w1 (Nat.le_refl _) hBx hlx hlt hc5 (by omega) hI hlb) Mid.trans (Mid.putObj (Nat.le_refl _)) (Below.refl _ _) (fun _ => rfl)
    (fun pre W => pre.length ≤ m ∧ CollI w.heap.size (w.heap.size + 1 + 1 + 1 + 1) w1.heap.size w.heap.size (w.heap.size + 1) (w.heap.size + 1 + 1 + 1) 3 48 3 (.int .i64 m) (.slice none 0 0) w pre.length (plcs pre) W)
    (fun c pre W => c = .ret ∧ ∃ ini last v, pre = ini ++ [last] ∧ ini.length = m ∧ Boxed W (w.heap.size + 1) 48 v ∧ Gath W w1.heap.size 3 1 v ini.length (plcs ini) ∧ Below w.heap.size w W)
    (fun s A B row hs hg hr => ⟨hs.1, hs.2.elim fun v hC => ⟨v, hC.turned (by omega) (Nat.le_refl _) hg hr⟩⟩)
    (fun c s A B row hs hg hr => by
      obtain ⟨hc, ini, last, v, e1, e2, e3, e4, e5⟩ := hs
      exact ⟨hc, ini, last, v, e1, e2, boxed_kept e3 hg (fun r e => (hr r e).2), gath_kept e4 hg (fun r e => (hr r e).2), e5.grown hg e5.size (fun r e => by have := (hr r e).1; omega)⟩)
    ⟨Nat.zero_le _, _, hC0⟩
    (fun x => { tmps := #[.slice a len cap, .int .i64 m, undef, .pointer (some ⟨w.heap.size, 0, none⟩), .pointer (some ⟨w.heap.size + 1, 0, none⟩), .pointer (some ⟨w.heap.size + 1 + 1 + 1, 0, none⟩), .int .i64 (x.1 : Int), .slice (some ⟨w.heap.size + 1 + 1, 0, none⟩) 0 0, .slice a len cap, .func (.func 49) #[] #[.pointer (some ⟨Bx, 0, none⟩)], .int .i64 (x.1 : Int), .int .u64 (x.2 : Int), undef, undef, undef, undef, undef, undef, undef, undef, undef, undef], defers := [] }) ?assign ?body ?done ?stop
  case assign =>
    intro l x W K hK
    gi_wp2
    exact hK
  case body =>
    rintro l pre x W ⟨hpm, v, hC⟩ hltz
    obtain ⟨a6, cap6, rfl⟩ := hC.row.slice
    have c1 := hC.box.cell
    have c2 := hC.boxM.cell
    have c3 := hC.boxR.cell
    have f3 := hC.boxR.frozen
    have HC := Lib.hid hC
    have hszW := hC.size
    clear hC hC0 bM bR bO hI hBx hB0
    by_cases hme : pre.length = m
    · have hmb : ((pre.length : Int) == (m : Int)) = true := by simp; omega
      have HM := Lib.hid hme
      clear hme
      gi_wp2
      refine ⟨(KeepsOthers.setCell _ _ _).from _, rfl, pre, x, _, rfl, HM.out, HC.out.boxR.set _, gath_set HC.out.row (by omega) _, HC.out.below.setCell (p := ⟨w.heap.size + 1, 0, none⟩) (by show w.heap.size ≤ w.heap.size + 1; omega) _⟩
    · have hmb : ((pre.length : Int) == (m : Int)) = false := by simp; omega
      have hpl : pre.length < m := by omega
      clear hme
      gi_wp2_with (gi_at_builtin; refine wpListIn_append_gath _ rfl _ _ 48 rfl w1.heap.size 3 i0 (.int .i64 0) 1 8 Try.underlying48 HI.out HZ0.out HZ1.out HZ2.out rfl (by decide) _ _ _ rfl (HC.out.row.alloc _) ⟨W.heap.size, 0, none⟩ 1 1 [.int .i64 (x.1 : Int)] rfl rfl (cell_one _ _ _) (one_val rfl) (by decide) (by unfold maxLen; omega) (by omega) (by simp; omega) ?_; intro v' w3 row hown hgrow hrow; obtain ⟨g', cap', rfl⟩ := ownsRow_succ hown; obtain ⟨hb1, hC1, hk1, hm1⟩ := HC.out.appended (by omega) (by omega) (by omega) (by omega) (by omega) (by omega) (by omega) hown hgrow hrow; have hc1 := hb1.cell; have hf1 := hb1.frozen)
      refine ⟨hk1.from _, hm1, by rw [List.length_append]; exact hpl, .slice (some ⟨g', 0, none⟩) (pre.length + 1) cap', ?_⟩
      rw [List.length_append, plcs_snoc]
      exact hC1
  case done =>
    rintro D ys W hD rfl ⟨hpm, v, hC⟩ hK
    obtain ⟨a6, cap6, rfl⟩ := hC.row.slice
    have c1 := hC.box.cell
    have c3 := hC.boxR.cell
    have f3 := hC.boxR.frozen
    have HC := Lib.hid hC
    clear hC hC0 bM bR bO hI hBx hB0
    gi_wp2
    have hK' := (KeepsOthers.setCell W ⟨w.heap.size + 1, 0, none⟩ (.slice a6 (itemsF zs).length cap6)).same D _ hK rfl
    refine ⟨by simp, .inl ⟨_, _, rfl, run_takeDeferred hK', ?_⟩⟩
    have hc5 := cell_kept (HC.out.boxR.set (.slice a6 (itemsF zs).length cap6)).cell (grownBy_putObj' _ D (.deferred none)) (fun r e => by cases e; exact ⟨_, hK', rfl⟩)
    refine ⟨.slice a6 (itemsF zs).length cap6, ?_, _, rfl, ?_, ?_⟩
    · simp [results, Try.f41, go_sem, hc5]
    · rw [List.take_of_length_le hpm]
      exact gath_putObj (gath_base (gath_set HC.out.row (by omega) _) (by omega)) _ hK' rfl
    · exact (HC.out.below.setCell (p := ⟨w.heap.size + 1, 0, none⟩) (by show w.heap.size ≤ w.heap.size + 1; omega) _).trans (belowK_b (w := w) (Nat.le_refl _) _ D _ _ (by omega) hK' rfl rfl)
  case stop =>
    rintro D c pre W hD hpre ⟨rfl, ini, last, v, rfl, hil, hbR, hg, hbel⟩ hK
    obtain ⟨a6, cap6, rfl⟩ := hg.slice
    gi_wp2
    refine ⟨by simp, .inl ⟨_, _, rfl, run_takeDeferred hK, ?_⟩⟩
    have hc5 := cell_kept hbR.cell (grownBy_putObj' _ D (.deferred none)) (fun r e => by cases e; exact ⟨_, hK, rfl⟩)
    have htk : (itemsF zs).take m = ini := by
      obtain ⟨t, ht⟩ := hpre
      rw [← ht, List.append_assoc, ← hil, List.take_left]
    refine ⟨.slice a6 ini.length cap6, ?_, _, rfl, ?_, ?_⟩
    · simp [results, Try.f41, go_sem, hc5]
    · rw [htk]
      exact gath_putObj (gath_base hg (by omega)) _ hK rfl
    · exact hbel.trans (belowK_b (w := w) (Nat.le_refl _) _ D _ _ (by omega) hK rfl rfl)
end Go.Proofs.Ytiajpffdnjeafaa
