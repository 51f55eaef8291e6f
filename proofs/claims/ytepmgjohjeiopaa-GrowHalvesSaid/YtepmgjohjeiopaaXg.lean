/- Contracts: the reference's Side, Pull and Weight; Pull; next. -/
import Derived.Test.YtepmgjohjeiopaaZpa
import Derived.Test.YtepmgjohjeiopaaZma
import Derived.Test.YtepmgjohjeiopaaGbr
import Derived.Test.YtepmgjohjeiopaaXd
import Derived.Sort.BigQuietIn
set_option linter.unusedVariables false
set_option linter.unusedSectionVars false
namespace Go.Proofs.Ytepmgjohjeiopaa
open Go.RowKit Rk

/-- What pulls thing i to part 0. -/
def pullF (n : Nat) (F : Nat → Nat → Int) (ms : List Int) (i : Nat) : Int := sumTo n (fun b => if ms.getD b 0 = 0 then F i b else 0)
/-- What part 0 weighs. -/
def wt0 (ws ms : List Int) (n : Nat) : Int := sumTo n (fun b => if ms.getD b 0 = 0 then ws.getD b 0 else 0)
theorem pullF_bd {n : Nat} {F : Nat → Nat → Int} (ht : Tab n F) (ms : List Int) (i : Nat) : ∀ k : Nat, 0 ≤ sumTo k (fun b => if ms.getD b 0 = 0 then F i b else 0) ∧ sumTo k (fun b => if ms.getD b 0 = 0 then F i b else 0) ≤ 1099511627776 * (k : Int)
  | 0 => by simp [sumTo]
  | k + 1 => by
    have ih := pullF_bd ht ms i k
    have h1 := ht.lo i k
    have h2 := ht.hi i k
    simp only [sumTo]
    split <;> omega
theorem wt0_bd {ws : List Int} (hw : ∀ x ∈ ws, 1 ≤ x ∧ x ≤ 1099511627776) (ms : List Int) : ∀ k : Nat, k ≤ ws.length → 0 ≤ wt0 ws ms k ∧ wt0 ws ms k ≤ 1099511627776 * (k : Int)
  | 0, _ => by simp [wt0, sumTo]
  | k + 1, hk => by
    have ih := wt0_bd hw ms k (by omega)
    have h1 := getD_wts hw (k := k) (by omega)
    unfold wt0 at ih ⊢
    simp only [sumTo]
    split <;> omega
section
variable {W W' : World} {X : XD} {lo : Nat} {ws : List Int} {F : Nat → Nat → Int}
set_option maxRecDepth 100000 in
set_option maxHeartbeats 2000000 in
theorem xpull_any (h : IsX W X lo ws F) (hn30 : ws.length ≤ 30) {B : Nat} {a : Option Addr} {b off len cap : Nat} {ms : List Int} (hm : IntsAt .i64 B W a b off len ms) (hB : B ≤ W.heap.size) (hl : len = ws.length) {i : Nat} (hi : i < ws.length) :
    Calls Try.prog 31 #[X.val ws.length, .slice a len cap, .int .i64 (i : Int)] W fun e w' => e = .returned (.int .i64 (pullF ws.length F ms i)) ∧ Below W.heap.size W w' := by
  have hal : Below W.heap.size W (W.alloc (.cells #[.slice X.wa ws.length X.wc, .slice X.ra ws.length X.rc] 29)) := (Below.refl _ _).alloc (Nat.le_refl _) _
  have hXd : (W.alloc (.cells #[.slice X.wa ws.length X.wc, .slice X.ra ws.length X.rc] 29)).heap[W.heap.size]? = some (.cells #[.slice X.wa ws.length X.wc, .slice X.ra ws.length X.rc] 29 (0, 0)) := heap_new (w := W) _ rfl
  have HXD := Lib.hid hXd
  have HA := Lib.hid hal
  have HM := Lib.hid (hm.kept (hal.mono hB) (Nat.le_refl _))
  have HTab := Lib.hid h.tab
  subst hl
  obtain ⟨era, r1, r2⟩ := (h.below hal).x0.at_ hi
  have HR2 := Lib.hid r2
  unfold XD.val pullF
  generalize ws.length = n at *
  have d1 : (W.alloc (.cells #[.slice X.wa n X.wc, .slice X.ra n X.rc] 29)).cell? ⟨W.heap.size, 1, none⟩ = some (.slice (some ⟨X.rb, 0, none⟩) n X.rc) := by rw [← era]; exact heap_cell HXD.out rfl
  clear h hm hal hXd r2 era
  go_enter Try.func31, Try.ntmps31
  go_upto_region 1 with fail
  generalize W.alloc (.cells #[.slice X.wa n X.wc, .slice X.ra n X.rc] 29) = w1 at *
  go_wp2
  go_loop [7, 8] (fun t j => ∃ q : Nat, j = .int .i64 q ∧ t = .int .i64 (sumTo q (fun b => if ms.getD b 0 = 0 then F i b else 0)) ∧ q ≤ n) (fun _ j => n - (intOf j).toNat)
  case atStart => exact ⟨0, rfl, rfl, Nat.zero_le _⟩
  case round =>
    obtain ⟨q, rfl, rfl, hq⟩ := hrel
    by_cases hlt : q < n
    · have c1 := HM.out.cell q hlt
      obtain rfl : a = some ⟨b, off, none⟩ := HM.out.addr.resolve_left (by omega)
      have r3 := HR2.out q hlt
      have hb1 := pullF_bd HTab.out ms i q
      have hx0 := HTab.out.lo i q
      have hx1 := HTab.out.hi i q
      have HS : Hid (sumTo (q + 1) (fun b => if ms.getD b 0 = 0 then F i b else 0) = sumTo q (fun b => if ms.getD b 0 = 0 then F i b else 0) + if ms.getD q 0 = 0 then F i q else 0) := Lib.hid rfl
      generalize sumTo q (fun b => if ms.getD b 0 = 0 then F i b else 0) = s at *
      generalize ms.getD q 0 = y at *
      generalize F i q = x at *
      have hqn : (q : Int) < (n : Int) := by omega
      have hin : (i : Int) < (n : Int) := by omega
      by_cases hy : y = 0
      · have HS2 : Hid (sumTo (q + 1) (fun b => if ms.getD b 0 = 0 then F i b else 0) = s + x) := Lib.hid (by rw [HS.out, if_pos hy])
        have hw : IntKind.i64.wrap (s + x) = s + x := IntWalk.i64_in _ (by omega)
        subst hy
        clear HS hb1
        go_wp2
        go_round
        case rel => exact ⟨q + 1, by go_num, by rw [HS2.out], by omega⟩
        case measure => simp [intOf]; omega
      · have HS2 : Hid (sumTo (q + 1) (fun b => if ms.getD b 0 = 0 then F i b else 0) = s) := Lib.hid (by rw [HS.out, if_neg hy]; omega)
        have hd : (y == 0) = false := by simpa using hy
        clear HS hb1 hy
        go_wp2
        go_round
        case rel => exact ⟨q + 1, by go_num, by rw [HS2.out], by omega⟩
        case measure => simp [intOf]; omega
    · obtain rfl : q = n := by omega
      go_wp2
      go_ret
      exact ⟨rfl, HA.out⟩
set_option maxRecDepth 100000 in
set_option maxHeartbeats 2000000 in
theorem xweight0_any (h : IsX W X lo ws F) (hw : ∀ x ∈ ws, 1 ≤ x ∧ x ≤ 1099511627776) (hn30 : ws.length ≤ 30) {B : Nat} {a : Option Addr} {b off len cap : Nat} {ms : List Int} (hm : IntsAt .i64 B W a b off len ms) (hB : B ≤ W.heap.size) (hl : len = ws.length) :
    Calls Try.prog 67 #[X.val ws.length, .slice a len cap] W fun e w' => e = .returned (.int .i64 (wt0 ws ms ws.length)) ∧ Below W.heap.size W w' := by
  have hal : Below W.heap.size W (W.alloc (.cells #[.slice X.wa ws.length X.wc, .slice X.ra ws.length X.rc] 29)) := (Below.refl _ _).alloc (Nat.le_refl _) _
  have hXd : (W.alloc (.cells #[.slice X.wa ws.length X.wc, .slice X.ra ws.length X.rc] 29)).heap[W.heap.size]? = some (.cells #[.slice X.wa ws.length X.wc, .slice X.ra ws.length X.rc] 29 (0, 0)) := heap_new (w := W) _ rfl
  have HXD := Lib.hid hXd
  have HA := Lib.hid hal
  have HI := Lib.hid (h.ints.kept hal (Nat.le_refl _))
  have HM := Lib.hid (hm.kept (hal.mono hB) (Nat.le_refl _))
  have HW := Lib.hid hw
  have HBD := Lib.hid (wt0_bd hw ms)
  obtain ⟨n, hnn⟩ : ∃ n, ws.length = n := ⟨_, rfl⟩
  have HN := Lib.hid hnn
  unfold XD.val
  rw [hnn] at HXD HA HI HM hl hn30 ⊢
  subst hl
  clear h hm hal hXd hw hnn
  go_enter Try.func67, Try.ntmps67
  go_upto_region 1 with fail
  generalize W.alloc (.cells #[.slice X.wa len X.wc, .slice X.ra len X.rc] 29) = w1 at *
  go_wp2
  go_loop [5, 6] (fun t j => ∃ q : Nat, j = .int .i64 q ∧ t = .int .i64 (wt0 ws ms q) ∧ q ≤ len) (fun _ j => len - (intOf j).toNat)
  case atStart => exact ⟨0, rfl, rfl, Nat.zero_le _⟩
  case round =>
    obtain ⟨q, rfl, rfl, hq⟩ := hrel
    by_cases hlt : q < len
    · have c1 := HM.out.cell q hlt
      obtain rfl : a = some ⟨b, off, none⟩ := HM.out.addr.resolve_left (by omega)
      have c2 := HI.out.cell q hlt
      rw [Nat.zero_add] at c2
      have haw := HI.out.addr.resolve_left (by omega)
      have d0 : w1.cell? ⟨W.heap.size, 0, none⟩ = some (.slice (some ⟨X.wb, 0, none⟩) len X.wc) := by rw [← haw]; exact heap_cell HXD.out rfl
      have hb1 := HBD.out q (by rw [HN.out]; omega)
      have hx := getD_wts HW.out (k := q) (by rw [HN.out]; exact hlt)
      have HS : Hid (wt0 ws ms (q + 1) = wt0 ws ms q + if ms.getD q 0 = 0 then ws.getD q 0 else 0) := Lib.hid rfl
      generalize wt0 ws ms q = s at *
      generalize ms.getD q 0 = y at *
      generalize ws.getD q 0 = x at *
      have hqn : (q : Int) < (len : Int) := by omega
      clear haw
      by_cases hy : y = 0
      · have HS2 : Hid (wt0 ws ms (q + 1) = s + x) := Lib.hid (by rw [HS.out, if_pos hy])
        have hw : IntKind.i64.wrap (s + x) = s + x := IntWalk.i64_in _ (by omega)
        subst hy
        clear HS hb1
        go_wp2
        go_round
        case rel => exact ⟨q + 1, by go_num, by rw [HS2.out], by omega⟩
        case measure => simp [intOf]; omega
      · have HS2 : Hid (wt0 ws ms (q + 1) = s) := Lib.hid (by rw [HS.out, if_neg hy]; omega)
        have hd : (y == 0) = false := by simpa using hy
        clear HS hb1 hy
        go_wp2
        go_round
        case rel => exact ⟨q + 1, by go_num, by rw [HS2.out], by omega⟩
        case measure => simp [intOf]; omega
    · obtain rfl : q = len := by omega
      go_wp2
      go_ret
      exact ⟨rfl, HA.out⟩
end
set_option maxRecDepth 100000 in
set_option maxHeartbeats 2000000 in
theorem xside_any {w : World} {a : Option Addr} {b off len cap : Nat} {ms : List Int} (hm : IntsAt .i64 w.heap.size w a b off len ms) (hl : len ≤ 60) (p : Int) :
    Calls Try.prog 32 #[.slice a len cap, .int .i64 p] w fun e w' => ∃ ad c b', e = .returned (.slice (some ad) (sideL ms p ms.length).length c) ∧ (sideL ms p ms.length).length ≤ c ∧ IntsAt .i64 w'.heap.size w' (some ad) b' 0 (sideL ms p ms.length).length (sideL ms p ms.length) ∧ Below w.heap.size w w' := by
  obtain ⟨n0, hi, hz0, hz1, hz2⟩ := info_parts L12.Try.infoInt
  have HI := Lib.hid hi
  have HZ0 := Lib.hid hz0
  have HZ1 := Lib.hid hz1
  have HZ2 := Lib.hid hz2
  have b0 : Below w.heap.size w (w.alloc (.cells #[] 3)) := (Below.refl _ _).alloc (Nat.le_refl _) _
  have HB0 := Lib.hid b0
  have HM := Lib.hid hm
  have HL := Lib.hid hm.length
  rw [hm.length]
  clear hi hz0 hz1 hz2 hm b0
  go_enter Try.func32, Try.ntmps32
  go_wp2
  go_loopw [5, 6] (fun v i wr => ∃ (j : Nat) (bt : Option Nat) (ad : Addr) (ct : Nat), j ≤ len ∧ i = .int .i64 j ∧ v = .slice (some ad) (sideL ms p j).length ct ∧ Hid (GB wr w.heap.size 3 1 v (sideL ms p j).length (L12.ints (sideL ms p j)) bt) ∧ Hid (Below w.heap.size w wr)) (fun _ i _ => len - (intOf i).toNat)
  case atStart => exact ⟨0, none, _, _, Nat.zero_le _, rfl, rfl, Lib.hid (gb_nil _ _ _ _ _), HB0⟩
  case round =>
    clear HB0
    obtain ⟨j, bt, ad, ct1, hj, rfl, rfl, HG, HB⟩ := hrel
    have zr := HB.out.size
    have hlp := sideL_length ms p j
    by_cases hlt : j < len
    · have hcell := (HM.out.kept HB.out (Nat.le_refl _)).cell j hlt
      obtain rfl : a = some ⟨b, off, none⟩ := HM.out.addr.resolve_left (by omega)
      have HS : Hid (sideL ms p (j + 1) = sideL ms p j ++ if ms.getD j 0 = p then [(j : Int)] else []) := Lib.hid rfl
      generalize sideL ms p j = l at *
      generalize ms.getD j 0 = y at *
      have hjn : (j : Int) < (len : Int) := by omega
      by_cases hy : y = p
      · have HS2 : Hid (sideL ms p (j + 1) = l ++ [(j : Int)]) := Lib.hid (by rw [HS.out, if_pos hy])
        have hd : (y == p) = true := by simpa using hy
        clear HS hy
        go_wp2_with (at_builtin; refine wpList_append_GB _ rfl _ _ 24 rfl w.heap.size 3 n0 (.int .i64 0) 1 8 Try.underlying24 HI.out HZ0.out HZ1.out HZ2.out rfl (by decide) _ _ _ bt rfl (HG.out.alloc _) ⟨wr.heap.size, 0, none⟩ 1 1 [.int .i64 (j : Int)] rfl rfl (cell_one _ _ _) (one_val rfl) (by decide) (by unfold maxLen; omega) (by omega) (by simp; omega) ?_; intro g5 cap5 w5 row5 hG5 hg5 hr5 hw5; have HG5 := Lib.hid hG5; have HB5 : Hid (Below w.heap.size w w5) := Lib.hid ((HB.out.alloc zr _).grown hg5 (by simp; omega) (fun q e => by rcases hr5 with hr5 | hr5; (· rw [hr5] at e; cases e); (· have := HG.out.lt q (by rw [← hr5]; exact e); omega))); clear hG5 hg5 hr5 hw5 HG)
        go_roundw
        case rel => exact ⟨j + 1, some g5, ⟨g5, 0, none⟩, cap5, by omega, by go_num, by rw [HS2.out, List.length_append]; rfl, by rw [HS2.out]; exact Lib.hid (by rw [List.length_append, L12.ints_snoc]; exact HG5.out), HB5⟩
        case measure => simp [intOf]; omega
      · have HS2 : Hid (sideL ms p (j + 1) = l) := Lib.hid (by rw [HS.out, if_neg hy, List.append_nil])
        have hd : (y == p) = false := by simpa using hy
        clear HS hy
        go_wp2
        go_roundw
        case rel => exact ⟨j + 1, bt, ad, ct1, by omega, by go_num, by rw [HS2.out], by rw [HS2.out]; exact HG, HB⟩
        case measure => simp [intOf]; omega
    · obtain rfl : j = len := by omega
      have hwf : ∀ x ∈ sideL ms p j, (Lit.int .i64 x).wf = true := fun x hx => by
        obtain ⟨d, hd, _, rfl⟩ := mem_sideL.1 hx
        exact wf_small d (by omega)
      obtain ⟨at3, ct3, bt3, et, hc3, _, _, hI⟩ := Gath.ints (k := .i64) HG.out.gath rfl hwf
      cases et
      have HI3 := Lib.hid hI
      clear hwf hI HG
      go_wp2
      go_ret
      exact ⟨ad, ct1, bt3, rfl, hc3, HI3.out, HB.out⟩
end Go.Proofs.Ytepmgjohjeiopaa

namespace Go.Proofs.Ytepmgjohjeiopaa
open Go.RowKit Go.Shelf Rk

attribute [local go_sem] Oper.semAt_some
theorem wide_fn (f : FuncId) : Fence.wide.fn f = True := rfl
attribute [local go_sem, local simp] wide_fn

/-- What one other thing pulls. -/
def pl1 (ms : List Int) (x : Int × Int) : Int := if ms.getD x.1.toNat 0 = 0 then x.2 else 0
def plS (ms : List Int) (l : List (Int × Int)) : Int := (l.map (pl1 ms)).sum
theorem plS_snoc (ms : List Int) (l : List (Int × Int)) (x : Int × Int) : plS ms (l ++ [x]) = plS ms l + pl1 ms x := by simp [plS]
theorem plS_append (ms : List Int) (l l' : List (Int × Int)) : plS ms (l ++ l') = plS ms l + plS ms l' := by simp [plS]
theorem plS_bd (ms : List Int) : ∀ l : List (Int × Int), (∀ x ∈ l, 0 ≤ x.2 ∧ x.2 ≤ 1099511627776) → 0 ≤ plS ms l ∧ plS ms l ≤ 1099511627776 * (l.length : Int)
  | [], _ => by simp [plS]
  | x :: l, h => by
    have h1 := plS_bd ms l (fun y hy => h y (List.mem_cons_of_mem _ hy))
    have h2 := h x (List.mem_cons_self ..)
    have e : plS ms (x :: l) = pl1 ms x + plS ms l := by simp [plS]
    have h3 : 0 ≤ pl1 ms x ∧ pl1 ms x ≤ x.2 := by unfold pl1; split <;> omega
    rw [e, List.length_cons]
    omega
theorem plS_row (ms : List Int) {f : Nat → Int} (hf : ∀ b, 0 ≤ f b) : ∀ n, plS ms (rowOf n f) = sumTo n (fun b => if ms.getD b 0 = 0 then f b else 0)
  | 0 => rfl
  | n + 1 => by
    rw [rowOf_succ, plS_append, plS_row ms hf n]
    simp only [sumTo]
    congr 1
    by_cases h : 0 < f n
    · rw [if_pos h]; simp [plS, pl1]
    · have := hf n
      have h0 : f n = 0 := by omega
      rw [if_neg h, h0]; simp [plS]
/-- What Pull answers. -/
def pullA (n : Nat) (F : Nat → Nat → Int) (ms : List Int) (i : Int) : Int := if ms.length = n then plS ms (nearD n F i) else 0
theorem pullA_nat {n : Nat} {F : Nat → Nat → Int} (ht : Tab n F) {ms : List Int} (hl : ms.length = n) {i : Nat} (hi : i < n) : pullA n F ms (i : Int) = pullF n F ms i := by
  unfold pullA pullF
  rw [if_pos hl, nearD_nat F hi, plS_row ms (fun b => ht.lo i b)]
theorem pullA_out {n : Nat} {F : Nat → Nat → Int} {ms : List Int} {i : Int} (hi : ¬ (0 ≤ i ∧ i < (n : Int))) : pullA n F ms i = 0 := by
  unfold pullA nearD
  split
  · rw [if_neg (show ¬ hasN n i = true from fun h => hi (of_decide_eq_true h))]; rfl
  · rfl
set_option maxRecDepth 100000 in
set_option maxHeartbeats 4000000 in
theorem pull_any {w : World} {g nb : Nat} {ws : List Int} {F : Nat → Nat → Int} (h : IsG w g nb ws F) (hn30 : ws.length ≤ 30) {a : Option Addr} {mb off len cap : Nat} {ms : List Int} (hm : IntsAt .i64 w.heap.size w a mb off len ms) (i : Int) :
    Calls Try.prog 35 #[.pointer (some ⟨g, 0, none⟩), .slice a len cap, .int .i64 i] w fun e w' => e = .returned (.int .i64 (pullA ws.length F ms i)) ∧ Below w.heap.size w w' := by
  have b0 : Below w.heap.size w (w.alloc (.cells #[.slice a len cap] 24)) := (Below.refl _ w).alloc (Nat.le_refl _) _
  have bS : Boxed (w.alloc (.cells #[.slice a len cap] 24)) w.heap.size 24 (.slice a len cap) := Boxed.new w 24 _
  obtain ⟨w1, hw1⟩ : ∃ w1, w.alloc (.cells #[.slice a len cap] 24) = w1 := ⟨_, rfl⟩
  have hz1 : w1.heap.size = w.heap.size + 1 := by rw [← hw1]; simp
  rw [hw1] at b0 bS
  have h1 := h.below b0
  have hm1 := (hm.kept b0 (Nat.le_refl _)).mono b0.size
  have HLe : Hid (∀ nq : Nat, Calls Try.prog 53 #[.pointer (some ⟨g, 0, none⟩)] (w1.drewN nq) (fun e w' => e = .returned (.int .i64 (ws.length : Int)) ∧ w1.drewN nq = w')) := Lib.hid (fun nq => glen_any (h1.below ⟨rfl, rfl, rfl, Nat.le_refl _, fun _ _ => rfl⟩))
  have HB0 := Lib.hid b0
  have HbS := Lib.hid bS
  have hlm := hm.length
  have cS := bS.cell
  have HM := Lib.hid hm1
  have hsm := hm.small
  unfold maxLen at hsm
  have HNr : Hid (∀ W, Below w1.heap.size w1 W → Calls Try.prog 62 #[.pointer (some ⟨g, 0, none⟩), .int .i64 i] W (SeqQPost w1.heap.size (nearD ws.length F i) W)) := Lib.hid (fun W hW => near_q i h1 hW)
  have HMEM : Hid (∀ x ∈ nearD ws.length F i, (∃ b : Nat, x.1 = (b : Int) ∧ b < ws.length) ∧ 0 ≤ x.2 ∧ x.2 ≤ 1099511627776) := Lib.hid (fun x hx => by
    unfold nearD at hx
    split at hx
    · obtain ⟨b, h1, h2, rfl⟩ := mem_rowOf.1 hx
      exact ⟨⟨b, rfl, h1⟩, by show 0 ≤ F i.toNat b; omega, h.tab.hi i.toNat b⟩
    · simp at hx)
  have HLen := Lib.hid (nearD_length ws.length F i)
  by_cases hne : len = ws.length
  · subst hne
    have HF : Hid (pullA ws.length F ms i = plS ms (nearD ws.length F i)) := Lib.hid (if_pos hlm)
    clear h hm b0 bS h1 hm1 hlm
    generalize pullA ws.length F ms i = res at *
    generalize nearD ws.length F i = D at *
    generalize ws.length = n at *
    refine (callsIn_wide (n := 3)).1 ?_
    refine callsIn_of_wp_marks Try.func35 rfl trivial ?_ rfl
    simp only [Try.ntmps35, List.size_toArray, List.length_cons, List.length_nil, Nat.reduceAdd, Nat.reduceSub, Array.replicate_succ, Array.replicate_zero, List.push_toArray, List.append_toArray, List.nil_append, List.cons_append]
    gi_wp2_with fail
    clear hw1
    gi_big_quiet_th (first | (gi_at_call 53; exact CallsIn.quiet_of_same ((callsIn_wide.2 (HLe.out _)).mono (fun e w' h => ⟨h.1, h.2.symm⟩))))
    have HdW : Hid (Below w1.heap.size w1 (w1.drewN nq)) := Lib.hid ⟨rfl, rfl, rfl, Nat.le_refl _, fun _ _ => rfl⟩
    have hzw : (w1.drewN nq).heap.size = w1.heap.size := rfl
    generalize w1.drewN nq = w2 at *
    have z2 := HdW.out.size
    have ba : Below w2.heap.size w2 (w2.alloc (.cells #[.int .i64 0] 2)) := (Below.refl _ _).alloc (Nat.le_refl _) _
    have HNr2 := Lib.hid (HNr.out _ (HdW.out.trans (ba.mono z2)))
    clear cS HNr ba hzw HLe
    gi_wp2_with (gi_at_call 62; refine (callsIn_wide.2 HNr2.out).mono ?_; rintro e w3 ⟨sv, rfl, hsq, hB3⟩)
    have z3 := hB3.size
    simp only [World.size_alloc] at z3
    have hB13 : Below w1.heap.size w1 w3 := (HdW.out.alloc z2 (.cells #[.int .i64 0] 2)).trans (hB3.mono (by simp; omega))
    have bG : Boxed w3 w2.heap.size 2 (.int .i64 0) := (hB3.block w2.heap.size (by simp)).trans (Boxed.new w2 2 _)
    have HFX := Lib.hid (fun (W : World) (hW : Below w1.heap.size w1 W) => And.intro (Boxed.cell (show Boxed W _ 24 _ from heap_below HbS.out hW (heap_lt HbS.out))) (HM.out.kept hW (Nat.le_refl _)))
    obtain ⟨gf, lb, rfl, hen, hst⟩ := hsq
    clear hB3
    refine wpIn_rangeFunc_ownG rfl (by omega) (gf := gf) (lb := lb) rfl trivial hen
      (hst 2).stopsF belowK_t (belowK_b (by omega)) (Below.refl _ _) (fun _ => rfl)
      (fun pre W => Below w1.heap.size w1 W ∧ Boxed W w2.heap.size 2 (.int .i64 (plS ms (pre.map D.get))))
      (fun _ _ _ => False)
      (OwnFrom.and (ownFrom_below (Nat.le_refl _) (by omega)) (Own.from (boxed_own w2.heap.size 2 (fun pre : List (Fin D.length) => .int .i64 (plS ms (pre.map D.get)))) _))
      (fun _ _ _ _ _ hs _ _ => hs)
      ⟨hB13, bG⟩
      ?_ ?assign ?body ?done ?stop
    case assign =>
      intro l x W K hK
      unfold encP
      gi_wp2
      exact hK
    case body =>
      rintro l pre x W ⟨hB, hG⟩ hlt
      obtain ⟨⟨b, hb1, hb2⟩, hx0, hx1⟩ := HMEM.out _ (List.getElem_mem x.isLt)
      have hI : ∀ r, plS ms (pre.map D.get) + pl1 ms D[x.val] = r → plS ms ((pre ++ [x]).map D.get) = r := fun r hr => by
        rw [List.map_append, List.map_cons, List.map_nil, plS_snoc, List.get_eq_getElem, hr]
      have hbd := plS_bd ms (pre.map D.get) (fun y hy => by
        obtain ⟨j, _, rfl⟩ := List.mem_map.1 hy
        exact (HMEM.out _ (List.getElem_mem j.isLt)).2)
      rw [List.length_map] at hbd
      have hll := HLen.out
      have HS := Lib.hid (show pl1 ms D[x.val] = (if ms.getD (D[x.val]).1.toNat 0 = 0 then (D[x.val]).2 else 0) from rfl)
      have HI := Lib.hid hI
      clear hst hI bG hB13
      generalize pl1 ms D[x.val] = gx at *
      generalize plS ms (pre.map D.get) = s at *
      generalize D[x.val] = p at *
      obtain ⟨p1, p2⟩ := p
      simp only at hb1 hx0 hx1 HS
      subst hb1
      rw [Int.toNat_natCast] at HS
      obtain ⟨cS, hmW⟩ := HFX.out W hB
      have cb := hmW.cell b hb2
      obtain rfl : a = some ⟨mb, off, none⟩ := HM.out.addr.resolve_left (by omega)
      obtain ⟨y, hy⟩ : ∃ y, ms.getD b 0 = y := ⟨_, rfl⟩
      rw [hy] at HS
      rw [hy] at cb
      have hbb : (b : Int) < (n : Int) := by omega
      have HG := Lib.hid hG
      have HB := Lib.hid hB
      have cG := hG.cell
      have fG := hG.frozen
      clear hy hmW hB hG
      have hw1 : IntKind.i64.wrap (s + p2) = s + p2 := IntWalk.i64_in _ (by omega)
      by_cases h1 : y = 0
      · have h1b : ((y : Int) == 0) = true := by simpa using h1
        have HR := Lib.hid (HI.out (s + p2) (by rw [HS.out, if_pos h1]))
        clear h1
        gi_wp2
        exact ⟨(KeepsOthers.setCell _ _ _).from _, (Below.refl _ _).setCell (p := ⟨w2.heap.size, 0, none⟩) z2 _, HB.out.setCell (p := ⟨w2.heap.size, 0, none⟩) z2 _, by rw [HR.out]; exact HG.out.set _⟩
      · have h1b : ((y : Int) == 0) = false := by simpa using h1
        have HR := Lib.hid (HI.out s (by rw [HS.out, if_neg h1]; omega))
        clear h1
        gi_wp2
        exact ⟨(show KeepsOthers W W from ⟨Nat.le_refl _, fun _ _ h _ => h⟩).from _, Below.refl _ _, HB.out, by rw [HR.out]; exact HG.out⟩
    case done =>
      rintro E ys W hD rfl ⟨hB, hG⟩ hK
      rw [get_finRange] at hG
      have c1 := hG.cell
      gi_wp2
      refine ⟨by simp, .inl ⟨_, _, rfl, run_takeDeferred hK, ?_⟩⟩
      refine ⟨_, results_tmp rfl _ _ _, ?_, ((HB0.out.trans (hB.mono HB0.out.size)).trans (belowK_b (w := w) (Nat.le_refl _) _ E _ _ (by omega) hK rfl rfl))⟩
      exact ret1 HF.out.symm
    case stop =>
      rintro E c pre W hD hpre h hK
      exact h.elim
  · have HF : Hid (pullA ws.length F ms i = 0) := Lib.hid (if_neg (by rw [hlm]; exact hne))
    have hd : ((len : Int) == (ws.length : Int)) = false := by simp; omega
    clear h hm b0 bS h1 hm1 hlm HNr HMEM HLen
    generalize pullA ws.length F ms i = res at *
    generalize ws.length = n at *
    go_enter Try.func35, Try.ntmps35
    go_wp2_with fail
    clear hw1
    go_quiet ((go_at_call 53; exact Calls.quiet_of_same ((HLe.out _).mono (fun e w' h => ⟨h.1, h.2.symm⟩))))
    go_wp2
    go_ret
    exact ⟨ret1 HF.out.symm, HB0.out.trans ⟨rfl, rfl, rfl, Nat.le_refl _, fun _ _ => rfl⟩⟩
end Go.Proofs.Ytepmgjohjeiopaa

namespace Go.Proofs.Ytepmgjohjeiopaa
open Go.RowKit Go.Shelf Rk

attribute [local go_sem] Oper.semAt_some
attribute [local go_sem, local simp] wide_fn

/-- One thing more is looked at. -/
def nxStep (ws : List Int) (f : Nat → Int) (room : Int) (st : Nat × Bool) (x : Int) : Nat × Bool :=
  if ws.getD x.toNat 0 ≤ room ∧ (st.2 = false ∨ f st.1 < f x.toNat) then (x.toNat, true) else st
def nxS (ws : List Int) (f : Nat → Int) (room : Int) (D : List Int) : Nat × Bool := D.foldl (nxStep ws f room) (0, false)
theorem nxS_snoc (ws : List Int) (f : Nat → Int) (room : Int) (D : List Int) (x : Int) : nxS ws f room (D ++ [x]) = nxStep ws f room (nxS ws f room D) x := by simp [nxS]
theorem nx_acc {ws : List Int} {f : Nat → Int} {room : Int} {n : Nat} : ∀ (D : List Int) (st : Nat × Bool), (st.2 = true → st.1 < n) → (∀ x ∈ D, ∃ i : Nat, i < n ∧ x = (i : Int)) → (D.foldl (nxStep ws f room) st).2 = true → (D.foldl (nxStep ws f room) st).1 < n
  | [], st, h, _ => h
  | x :: D, st, h, hD => by
    obtain ⟨i, h1, h2⟩ := hD x (List.mem_cons_self ..)
    refine nx_acc D _ ?_ (fun y hy => hD y (List.mem_cons_of_mem _ hy))
    unfold nxStep
    split
    · intro _; subst h2; simpa using h1
    · exact h
theorem nxS_lt {ws : List Int} {f : Nat → Int} {room : Int} {n : Nat} {D : List Int} (hD : ∀ x ∈ D, ∃ i : Nat, i < n ∧ x = (i : Int)) (h : (nxS ws f room D).2 = true) : (nxS ws f room D).1 < n := nx_acc D _ (fun h => by cases h) hD h
theorem mid_set {lo hi B : Nat} {W : World} (h1 : B < lo) (h2 : hi ≤ W.heap.size) (v : Value) : Mid lo hi W (W.setCell ⟨B, 0, none⟩ v) := by
  have hset := grownBy_setCell' W B v
  exact ⟨hset.size, fun j h3 h4 => hset.block j (by omega) (fun e => by cases e; omega)⟩
theorem nx_put {w1 W Wd : World} {lo hi fi : Nat} {ok : Bool} (i : Nat) (hk : KeepsOthers W Wd) (hm : Mid lo hi W Wd) (hb : Below w1.heap.size w1 Wd) (hF : Boxed Wd w1.heap.size 3 (.int .i64 (fi : Int))) (hO : Boxed Wd (w1.heap.size + 1) 4 (.bool ok)) (hlo : w1.heap.size + 1 < lo) (hhi : hi ≤ Wd.heap.size) :
    KeepsOthers W ((Wd.setCell ⟨w1.heap.size, 0, none⟩ (.int .i64 (i : Int))).setCell ⟨w1.heap.size + 1, 0, none⟩ (.bool true)) ∧ Mid lo hi W ((Wd.setCell ⟨w1.heap.size, 0, none⟩ (.int .i64 (i : Int))).setCell ⟨w1.heap.size + 1, 0, none⟩ (.bool true)) ∧ Below w1.heap.size w1 ((Wd.setCell ⟨w1.heap.size, 0, none⟩ (.int .i64 (i : Int))).setCell ⟨w1.heap.size + 1, 0, none⟩ (.bool true)) ∧
    Boxed ((Wd.setCell ⟨w1.heap.size, 0, none⟩ (.int .i64 (i : Int))).setCell ⟨w1.heap.size + 1, 0, none⟩ (.bool true)) w1.heap.size 3 (.int .i64 (i : Int)) ∧ Boxed ((Wd.setCell ⟨w1.heap.size, 0, none⟩ (.int .i64 (i : Int))).setCell ⟨w1.heap.size + 1, 0, none⟩ (.bool true)) (w1.heap.size + 1) 4 (.bool true) ∧ hi ≤ ((Wd.setCell ⟨w1.heap.size, 0, none⟩ (.int .i64 (i : Int))).setCell ⟨w1.heap.size + 1, 0, none⟩ (.bool true)).heap.size := by
  have s1 := grownBy_setCell' Wd w1.heap.size (.int .i64 (i : Int))
  have s2 := grownBy_setCell' (Wd.setCell ⟨w1.heap.size, 0, none⟩ (.int .i64 (i : Int))) (w1.heap.size + 1) (.bool true)
  have hO2 : Boxed (Wd.setCell ⟨w1.heap.size, 0, none⟩ (.int .i64 (i : Int))) (w1.heap.size + 1) 4 (.bool ok) := (s1.block _ hO.lt (fun e => by have := Option.some.inj e; omega)).trans hO
  have hF2 : Boxed (Wd.setCell ⟨w1.heap.size, 0, none⟩ (.int .i64 (i : Int))) w1.heap.size 3 (.int .i64 (i : Int)) := hF.set _
  have hz := s1.size
  exact ⟨(hk.trans (KeepsOthers.setCell _ _ _)).trans (KeepsOthers.setCell _ _ _), (hm.trans (mid_set (by omega) hhi _)).trans (mid_set (by omega) (by omega) _), (hb.setCell (p := ⟨w1.heap.size, 0, none⟩) (Nat.le_refl _) _).setCell (p := ⟨w1.heap.size + 1, 0, none⟩) (Nat.le_succ _) _, (s2.block _ hF2.lt (fun e => by have := Option.some.inj e; omega)).trans hF2, hO2.set _, Nat.le_trans hhi (Nat.le_trans hz s2.size)⟩
/-- Which goes in next. -/
def nxF (ws : List Int) (f : Nat → Int) (room : Int) (ms : List Int) : Nat × Bool := nxS ws f room (sideL ms 1 ms.length)
set_option maxRecDepth 100000 in
set_option maxHeartbeats 4000000 in
theorem next_any {w : World} {g nb : Nat} {ws : List Int} {F : Nat → Nat → Int} (h : IsG w g nb ws F) (hn30 : ws.length ≤ 30) {a : Option Addr} {mb off len cap : Nat} {ms : List Int} (hm : IntsAt .i64 w.heap.size w a mb off len ms) (h0 : a = none → len = 0 ∧ cap = 0) (hl : len = ws.length) {pb : Nat} {f : Nat → Int} (hp : w.heap[pb]? = some (.cells (rowC ws.length f) 2 (0, 0))) (room : Int) :
    Calls Try.prog 66 #[.pointer (some ⟨g, 0, none⟩), .slice a len cap, .slice (some ⟨pb, 0, none⟩) ws.length ws.length, .int .i64 room] w fun e w' => e = .returned (.tuple #[.int .i64 ((nxF ws f room ms).1 : Int), .bool (nxF ws f room ms).2]) ∧ Below w.heap.size w w' := by
  have b0 : Below w.heap.size w (((w.alloc (.cells #[.pointer (some ⟨g, 0, none⟩)] 26)).alloc (.cells #[.slice (some ⟨pb, 0, none⟩) ws.length ws.length] 22)).alloc (.cells #[.int .i64 room] 2)) := (((Below.refl _ w).alloc (Nat.le_refl _) _).alloc (by simp) _).alloc (by simp; omega) _
  have bG : Boxed (((w.alloc (.cells #[.pointer (some ⟨g, 0, none⟩)] 26)).alloc (.cells #[.slice (some ⟨pb, 0, none⟩) ws.length ws.length] 22)).alloc (.cells #[.int .i64 room] 2)) w.heap.size 26 (.pointer (some ⟨g, 0, none⟩)) := ((Boxed.new w 26 _).alloc _).alloc _
  have bP : Boxed (((w.alloc (.cells #[.pointer (some ⟨g, 0, none⟩)] 26)).alloc (.cells #[.slice (some ⟨pb, 0, none⟩) ws.length ws.length] 22)).alloc (.cells #[.int .i64 room] 2)) (w.heap.size + 1) 22 (.slice (some ⟨pb, 0, none⟩) ws.length ws.length) := Boxed.alloc (by have := Boxed.new (w.alloc (.cells #[.pointer (some ⟨g, 0, none⟩)] 26)) 22 (.slice (some ⟨pb, 0, none⟩) ws.length ws.length); rwa [World.size_alloc] at this) _
  have bR : Boxed (((w.alloc (.cells #[.pointer (some ⟨g, 0, none⟩)] 26)).alloc (.cells #[.slice (some ⟨pb, 0, none⟩) ws.length ws.length] 22)).alloc (.cells #[.int .i64 room] 2)) (w.heap.size + 1 + 1) 2 (.int .i64 room) := by have := Boxed.new ((w.alloc (.cells #[.pointer (some ⟨g, 0, none⟩)] 26)).alloc (.cells #[.slice (some ⟨pb, 0, none⟩) ws.length ws.length] 22)) 2 (.int .i64 room); simp only [World.size_alloc] at this; exact this
  obtain ⟨w1, hw1⟩ : ∃ w1, ((w.alloc (.cells #[.pointer (some ⟨g, 0, none⟩)] 26)).alloc (.cells #[.slice (some ⟨pb, 0, none⟩) ws.length ws.length] 22)).alloc (.cells #[.int .i64 room] 2) = w1 := ⟨_, rfl⟩
  have HZ1 : Hid (w1.heap.size = w.heap.size + 1 + 1 + 1) := Lib.hid (by rw [← hw1]; simp)
  rw [hw1] at b0 bG bP bR
  have hlp : pb < w.heap.size := heap_lt hp
  have b2 : Below w1.heap.size w1 ((w1.alloc (.cells #[.int .i64 0] 3)).alloc (.cells #[.bool false] 4)) := ((Below.refl _ w1).alloc (Nat.le_refl _) _).alloc (by simp) _
  have HSd := Lib.hid (gside_any (cap := cap) ((hm.kept (b0.trans (b2.mono b0.size)) (Nat.le_refl _)).mono (Nat.le_trans b0.size b2.size)) h0 (by omega) 1)
  have HGr := Lib.hid (h.below b0)
  have HPl := Lib.hid (heap_below hp b0 hlp)
  have HB0 := Lib.hid b0
  have HBG := Lib.hid bG
  have HBP := Lib.hid bP
  have HBR := Lib.hid bR
  have hlm := hm.length
  have HMEM : Hid (∀ x ∈ sideL ms 1 ms.length, ∃ i : Nat, i < ws.length ∧ x = (i : Int)) := Lib.hid (fun x hx => by
    obtain ⟨i, h1, _, h2⟩ := mem_sideL.1 hx
    exact ⟨i, by omega, h2⟩)
  have HF : Hid (nxF ws f room ms = nxS ws f room (sideL ms 1 ms.length)) := Lib.hid rfl
  clear h hm h0 hp b0 bG bP bR b2 hlm
  generalize nxF ws f room ms = res at *
  obtain ⟨n, hn⟩ : ∃ n, ws.length = n := ⟨_, rfl⟩
  have HN := Lib.hid hn
  rw [hn] at hn30 hl HPl HBP HMEM hw1 ⊢
  subst hl
  clear hn
  refine (callsIn_wide (n := 3)).1 ?_
  refine callsIn_of_wp_marks Try.func66 rfl trivial ?_ rfl
  simp only [Try.ntmps66, List.size_toArray, List.length_cons, List.length_nil, Nat.reduceAdd, Nat.reduceSub, Array.replicate_succ, Array.replicate_zero, List.push_toArray, List.append_toArray, List.nil_append, List.cons_append]
  gi_wp2_with (gi_at_call 68; refine (callsIn_wide.2 HSd.out).mono ?_; rintro e w3 ⟨b1, b2, rb, rfl, hE, hB3⟩)
  have z3 := hB3.size
  simp only [World.size_alloc] at z3 hE hB3
  have bF : Boxed w3 w1.heap.size 3 (.int .i64 0) := (hB3.block w1.heap.size (by omega)).trans ((Boxed.new w1 3 (.int .i64 0)).alloc _)
  have bO : Boxed w3 (w1.heap.size + 1) 4 (.bool false) := (hB3.block (w1.heap.size + 1) (by omega)).trans (by have := Boxed.new (w1.alloc (.cells #[.int .i64 0] 3)) 4 (.bool false); rwa [World.size_alloc] at this)
  have hB13 : Below w1.heap.size w1 w3 := (((Below.refl _ w1).alloc (Nat.le_refl _) (.cells #[.int .i64 0] 3)).alloc (by simp) (.cells #[.bool false] 4)).trans (hB3.mono (by omega))
  have hst := (side1_in 2 (by omega) w3 hE (Nat.le_refl _)).stopsF
  have HFX := Lib.hid (fun (W : World) (hW : Below w1.heap.size w1 W) => And.intro (Boxed.cell (show Boxed W _ 26 _ from heap_below HBG.out hW (heap_lt HBG.out))) (And.intro (Boxed.cell (show Boxed W _ 22 _ from heap_below HBP.out hW (heap_lt HBP.out))) (And.intro (Boxed.cell (show Boxed W _ 2 _ from heap_below HBR.out hW (heap_lt HBR.out))) (And.intro (heap_below HPl.out hW (heap_lt HPl.out)) (HGr.out.below hW)))))
  clear hE hB3 hw1 HSd
  generalize sideL ms 1 ms.length = D at *
  refine wpIn_rangeFunc_ownG rfl (by omega) (gf := 89) (lb := #[.pointer (some ⟨b2, 0, none⟩), .pointer (some ⟨b1, 0, none⟩)]) rfl trivial (enters_of Try.func89 (by kernel_rfl) rfl)
    hst Mid.trans (Mid.putObj (Nat.le_refl _)) (Below.refl _ _) (fun _ => rfl)
    (fun pre W => Below w1.heap.size w1 W ∧ Boxed W w1.heap.size 3 (.int .i64 ((nxS ws f room (pre.map D.get)).1 : Int)) ∧ Boxed W (w1.heap.size + 1) 4 (.bool (nxS ws f room (pre.map D.get)).2) ∧ w3.heap.size ≤ W.heap.size)
    (fun _ _ _ => False)
    (fun s A B row hs hg hr => ⟨(ownFrom_below (w₀ := w1) (Nat.le_refl _) (by omega)) s A B row hs.1 hg hr, (Own.from (boxed_own w1.heap.size 3 (fun pre : List (Fin D.length) => .int .i64 ((nxS ws f room (pre.map D.get)).1 : Int))) _) s A B row hs.2.1 hg hr, (Own.from (boxed_own (w1.heap.size + 1) 4 (fun pre : List (Fin D.length) => .bool (nxS ws f room (pre.map D.get)).2)) _) s A B row hs.2.2.1 hg hr, Nat.le_trans hs.2.2.2 hg.size⟩)
    (fun _ _ _ _ _ hs _ _ => hs)
    ⟨hB13, bF, bO, Nat.le_refl _⟩
    ?_ ?assign ?body ?done ?stop
  case assign =>
    intro l x W K hK
    unfold enc1
    gi_wp2
    exact hK
  case body =>
    rintro l pre x W ⟨hB, hF1, hO1, hz3⟩ hlt
    obtain ⟨i, hi, hxi⟩ := HMEM.out _ (List.getElem_mem x.isLt)
    have hI : ∀ r, nxStep ws f room (nxS ws f room (pre.map D.get)) D[x.val] = r → nxS ws f room ((pre ++ [x]).map D.get) = r := fun r hr => by
      rw [List.map_append, List.map_cons, List.map_nil, nxS_snoc, List.get_eq_getElem, hr]
    have hlt1 := nxS_lt (ws := ws) (f := f) (room := room) (n := len) (D := pre.map D.get) (fun y hy => by
      obtain ⟨j, _, rfl⟩ := List.mem_map.1 hy
      exact HMEM.out _ (List.getElem_mem j.isLt))
    have hsz := hB.size
    clear hst bF bO hB13
    generalize hst0 : nxS ws f room (pre.map D.get) = st at *
    clear hst0
    rw [hxi] at hI ⊢
    obtain ⟨fi, ok⟩ := st
    have HS : nxStep ws f room (fi, ok) (i : Int) = if ws.getD i 0 ≤ room ∧ (ok = false ∨ f fi < f i) then (i, true) else (fi, ok) := by unfold nxStep; rw [Int.toNat_natCast]
    rw [HS] at hI
    obtain ⟨wx, hwx⟩ : ∃ wx, ws.getD i 0 = wx := ⟨_, rfl⟩
    rw [hwx] at hI
    have HI := Lib.hid hI
    obtain ⟨cG, cP, cR, hrow, hg⟩ := HFX.out W hB
    have HWt : Hid (∀ nq : Nat, Calls Try.prog 37 #[.pointer (some ⟨g, 0, none⟩), .int .i64 (i : Int)] (W.drewN nq) (fun e w' => e = .returned (.int .i64 wx) ∧ W.drewN nq = w')) := Lib.hid (fun nq => weight_lit (show IsG (W.drewN nq) g nb ws F from hg.below ⟨rfl, rfl, rfl, Nat.le_refl _, fun _ _ => rfl⟩) i (by unfold wtOf; rw [if_pos ⟨by omega, by rw [HN.out]; omega⟩, Int.toNat_natCast, hwx]))
    simp only at hF1 hO1 hlt1
    have c1 := hF1.cell
    have c2 := hO1.cell
    have cpi := heap_cell hrow (rowC_at f hi)
    have hib : (i : Int) < (len : Int) := by omega
    have HB := Lib.hid hB
    have HF1 := Lib.hid hF1
    have HO1 := Lib.hid hO1
    have hrow' := Lib.hid hrow
    clear hwx HS hI hB hF1 hO1 hrow hg hxi
    by_cases hw : wx ≤ room
    · have hwd : decide (wx ≤ room) = true := by simpa using hw
      cases ok with
      | false =>
        have HR := Lib.hid (HI.out (i, true) (if_pos ⟨hw, .inl rfl⟩))
        clear hw hlt1
        gi_wp2
        refine region_round_quiet rfl (by kernel_rfl) rfl (by kernel_rfl) ?_
        repeat (gi_big_quiet_step (first | (gi_at_call 37; exact CallsIn.quiet_of_same ((callsIn_wide.2 (HWt.out _)).mono (fun e w' h => ⟨h.1, h.2.symm⟩)))))
        refine wpQuietIn_nil ?_
        intro _ hw'
        obtain ⟨nq, rfl⟩ := hw'
        have fF := (show Boxed (W.drewN nq) w1.heap.size 3 (.int .i64 (fi : Int)) from HF1.out).frozen
        have fO := (show Boxed (W.drewN nq) (w1.heap.size + 1) 4 (.bool false) from HO1.out).frozen
        gi_wp2
        obtain ⟨q1, q2, q3, q4, q5, q6⟩ := nx_put (w1 := w1) (W := W) (Wd := W.drewN nq) (lo := w1.heap.size + 1 + 1) (hi := w3.heap.size) i ⟨Nat.le_refl _, fun _ _ h _ => h⟩ ⟨Nat.le_refl _, fun _ _ _ => rfl⟩ (HB.out.trans ⟨rfl, rfl, rfl, Nat.le_refl _, fun _ _ => rfl⟩) HF1.out HO1.out (by omega) hz3
        exact ⟨q1.from _, q2, q3, by rw [HR.out]; exact q4, by rw [HR.out]; exact q5, q6⟩
      | true =>
        have hfi := hlt1 rfl
        have cpf := heap_cell hrow'.out (rowC_at f hfi)
        have hfb : (fi : Int) < (len : Int) := by omega
        by_cases hgt : f fi < f i
        · have hgd : decide (f fi < f i) = true := by simpa using hgt
          have HR := Lib.hid (HI.out (i, true) (if_pos ⟨hw, .inr hgt⟩))
          clear hw hlt1 hgt
          gi_wp2
          refine region_round_quiet rfl (by kernel_rfl) rfl (by kernel_rfl) ?_
          repeat (gi_big_quiet_step (first | (gi_at_call 37; exact CallsIn.quiet_of_same ((callsIn_wide.2 (HWt.out _)).mono (fun e w' h => ⟨h.1, h.2.symm⟩)))))
          refine wpQuietIn_nil ?_
          intro _ hw'
          obtain ⟨nq, rfl⟩ := hw'
          have fF := (show Boxed (W.drewN nq) w1.heap.size 3 (.int .i64 (fi : Int)) from HF1.out).frozen
          have fO := (show Boxed (W.drewN nq) (w1.heap.size + 1) 4 (.bool true) from HO1.out).frozen
          gi_wp2
          obtain ⟨q1, q2, q3, q4, q5, q6⟩ := nx_put (w1 := w1) (W := W) (Wd := W.drewN nq) (lo := w1.heap.size + 1 + 1) (hi := w3.heap.size) i ⟨Nat.le_refl _, fun _ _ h _ => h⟩ ⟨Nat.le_refl _, fun _ _ _ => rfl⟩ (HB.out.trans ⟨rfl, rfl, rfl, Nat.le_refl _, fun _ _ => rfl⟩) HF1.out HO1.out (by omega) hz3
          exact ⟨q1.from _, q2, q3, by rw [HR.out]; exact q4, by rw [HR.out]; exact q5, q6⟩
        · have hgd : decide (f fi < f i) = false := by simpa using hgt
          have HR := Lib.hid (HI.out (fi, true) (if_neg (fun h => by rcases h.2 with h | h; cases h; exact hgt h)))
          clear hw hlt1 hgt
          gi_wp2
          refine region_round_quiet rfl (by kernel_rfl) rfl (by kernel_rfl) ?_
          repeat (gi_big_quiet_step (first | (gi_at_call 37; exact CallsIn.quiet_of_same ((callsIn_wide.2 (HWt.out _)).mono (fun e w' h => ⟨h.1, h.2.symm⟩)))))
          refine wpQuietIn_nil ?_
          intro _ hw'
          obtain ⟨nq, rfl⟩ := hw'
          gi_wp2
          exact ⟨(show KeepsOthers W (W.drewN nq) from ⟨Nat.le_refl _, fun _ _ h _ => h⟩).from _, ⟨Nat.le_refl _, fun _ _ _ => rfl⟩, HB.out.trans ⟨rfl, rfl, rfl, Nat.le_refl _, fun _ _ => rfl⟩, by rw [HR.out]; exact HF1.out, by rw [HR.out]; exact HO1.out, hz3⟩
    · have hwd : decide (wx ≤ room) = false := by simpa using hw
      have HR := Lib.hid (HI.out (fi, ok) (if_neg (fun h => hw h.1)))
      clear hw hlt1
      gi_wp2
      refine region_round_quiet rfl (by kernel_rfl) rfl (by kernel_rfl) ?_
      repeat (gi_big_quiet_step (first | (gi_at_call 37; exact CallsIn.quiet_of_same ((callsIn_wide.2 (HWt.out _)).mono (fun e w' h => ⟨h.1, h.2.symm⟩)))))
      refine wpQuietIn_nil ?_
      intro _ hw'
      obtain ⟨nq, rfl⟩ := hw'
      gi_wp2
      exact ⟨(show KeepsOthers W (W.drewN nq) from ⟨Nat.le_refl _, fun _ _ h _ => h⟩).from _, ⟨Nat.le_refl _, fun _ _ _ => rfl⟩, HB.out.trans ⟨rfl, rfl, rfl, Nat.le_refl _, fun _ _ => rfl⟩, by rw [HR.out]; exact HF1.out, by rw [HR.out]; exact HO1.out, hz3⟩
  case done =>
    rintro E ys W hD rfl ⟨hB, hF1, hO1, hz3⟩ hK
    rw [get_finRange] at hF1 hO1
    rw [← HF.out] at hF1 hO1
    have c1 := hF1.cell
    have c2 := hO1.cell
    gi_wp2_with fail
    gi_big_quiet_th (fail)
    gi_wp2
    refine ⟨by simp, .inl ⟨_, _, rfl, run_takeDeferred (show (W.drewN nq).heap[E]? = _ from hK), ?_⟩⟩
    refine ⟨.tuple #[.int .i64 (res.1 : Int), .bool res.2], ?_, ?_⟩
    · simp [results, Try.f66, go_sem]
    · exact ⟨rfl, (HB0.out.trans ((hB.trans (show Below w1.heap.size W (W.drewN nq) from ⟨rfl, rfl, rfl, Nat.le_refl _, fun _ _ => rfl⟩)).mono HB0.out.size)).trans (belowK_b (w := w) (Nat.le_refl _) _ E _ _ (by have := HB0.out.size; omega) (show (W.drewN nq).heap[E]? = _ from hK) rfl rfl)⟩
  case stop =>
    rintro E c pre W hD hpre h hK
    exact h.elim
end Go.Proofs.Ytepmgjohjeiopaa
