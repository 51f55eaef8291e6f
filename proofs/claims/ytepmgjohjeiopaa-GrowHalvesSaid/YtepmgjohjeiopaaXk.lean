/- Contracts: a product, a row repeated; two parts to begin with. -/
import Derived.Test.YtepmgjohjeiopaaXg
import Derived.Laws.CopyOwn
import Derived.StillTailTactics
import Derived.Test.YtepmgjohjeiopaaGt
set_option linter.unusedVariables false
set_option linter.unusedSectionVars false
namespace Go.Proofs.Ytepmgjohjeiopaa
open Go.RowKit Go.Shelf Rk

theorem and_mask (n : Nat) (h : n < 4294967296) : bits .and .u64 (n : Int) 4294967295 = (n : Int) := by
  have h511 : (BitVec.ofInt 64 4294967295).toNat = 2 ^ 32 - 1 := by decide
  have key : (BitVec.ofInt 64 (n : Int) &&& BitVec.ofInt 64 4294967295).toNat = ((n : Int) % ((2 ^ 64 : Nat) : Int)).toNat % 2 ^ 32 := by
    rw [BitVec.toNat_and, BitVec.toNat_ofInt, h511, Nat.and_two_pow_sub_one_eq_mod]
  show IntKind.u64.wrap ((BitVec.ofInt 64 (n : Int) &&& BitVec.ofInt 64 4294967295).toNat : Nat) = (n : Int)
  rw [key, IntKind.wrap_u64]
  omega
def ones (m : Nat) : Nat → Int := fun i => if i < m then 1 else 0
theorem rowC_list (n : Nat) (f : Nat → Int) (i : Nat) : (rowC n f).toList[i]? = if i < n then some (.int .i64 (f i)) else none := by
  by_cases h : i < n
  · rw [if_pos h]; have := rowC_at f h; simpa using this
  · rw [if_neg h]; simp [rowC]; omega
theorem row_splice {n m c : Nat} (h : m + c ≤ n) : (splice (rowC n (ones m)).toList m (List.replicate c (.int .i64 1))).toArray = rowC n (ones (m + c)) := by
  have hl : (rowC n (ones m)).toList.length = n := by simp [rowC]
  apply Array.ext'
  apply List.ext_getElem?
  intro i
  have ht : ((rowC n (ones m)).toList.take m).length = m := by rw [List.length_take, hl]; omega
  unfold splice
  show (_ ++ _)[i]? = _
  rw [rowC_list, List.length_replicate]
  by_cases h1 : i < m
  · rw [List.getElem?_append_left (by omega), List.getElem?_take_of_lt h1, rowC_list, if_pos (by omega), if_pos (by omega)]
    unfold ones; rw [if_pos h1, if_pos (by omega)]
  · rw [List.getElem?_append_right (by omega), ht]
    by_cases h2 : i < m + c
    · rw [List.getElem?_append_left (by rw [List.length_replicate]; omega), List.getElem?_replicate, if_pos (by omega), if_pos (by omega)]
      unfold ones; rw [if_pos h2]
    · rw [List.getElem?_append_right (by rw [List.length_replicate]; omega), List.length_replicate, List.getElem?_drop, rowC_list, show m + c + (i - m - c) = i by omega]
      unfold ones; rw [if_neg h1, if_neg h2]
set_option maxRecDepth 100000 in
theorem mul64_any (n : Nat) (hn : n ≤ 1000) (w : World) : Calls Try.prog 103 #[.int .u64 1, .int .u64 (n : Int)] w fun e w' => e = .returned (.tuple #[.int .u64 0, .int .u64 (n : Int)]) ∧ w = w' := by
  have h1 : bits .and .u64 1 4294967295 = 1 := by decide
  have h2 := and_mask n (by omega)
  have h3 : (n : Int) / 4294967296 = 0 := by omega
  have h4 : bits .and .u64 0 4294967295 = 0 := by decide
  go_enter Try.func103, Try.ntmps103
  go_wp2
  go_ret2
  exact ⟨rfl, rfl⟩
set_option maxRecDepth 100000 in
theorem mul_any (n : Nat) (hn : n ≤ 1000) (w : World) : Calls Try.prog 88 #[.int .u64 1, .int .u64 (n : Int)] w fun e w' => e = .returned (.tuple #[.int .u64 0, .int .u64 (n : Int)]) ∧ w = w' := by
  have HM := Lib.hid (mul64_any n hn w)
  go_enter Try.func88, Try.ntmps88
  go_wp2_with fail
  refine HM.out.mono ?_
  rintro e w' ⟨rfl, rfl⟩
  go_wp2
  go_ret2
  exact ⟨rfl, rfl⟩
set_option maxRecDepth 100000 in
set_option maxHeartbeats 2000000 in
theorem repeat_any {w : World} {b : Nat} (hc : w.cell? ⟨b, 0, none⟩ = some (.int .i64 1)) (hb : b < w.heap.size) (n : Nat) (hn : n ≤ 30) :
    Calls Try.prog 65 #[.slice (some ⟨b, 0, none⟩) 1 1, .int .i64 (n : Int)] w fun e w' => ∃ g, e = .returned (.slice (some ⟨g, 0, none⟩) n n) ∧ w'.heap[g]? = some (.cells (rowC n (fun _ => 1)) 3 (0, 0)) ∧ w.heap.size ≤ g ∧ Below w.heap.size w w' := by
  have HM := Lib.hid (mul_any n (by omega) w)
  have hmk := madeInts w n (by omega)
  have hw0 : rowC n (fun _ => 0) = rowC n (ones 0) := by congr
  rw [hw0] at hmk
  have hg0 : (w.alloc (.cells (rowC n (ones 0)) 3)).heap[w.heap.size]? = some (.cells (rowC n (ones 0)).toList.toArray 3 (0, 0)) := by rw [Array.toArray_toList]; exact World.alloc_heap_new w _
  have hb0 : Below w.heap.size w (w.alloc (.cells (rowC n (ones 0)) 3)) := (Below.refl _ w).alloc (Nat.le_refl _) _
  have hcc : (w.alloc (.cells (rowC n (ones 0)) 3)).cell? ⟨b, 0, none⟩ = some (.int .i64 1) := by rw [World.cell?_alloc_lt w _ (a := ⟨b, 0, none⟩) hb]; exact hc
  have hrl : (rowC n (ones 0)).toList.length = n := by simp [rowC]
  have HG0 := Lib.hid hg0
  have HB0 := Lib.hid hb0
  have HC0 := Lib.hid hcc
  have HRL := Lib.hid hrl
  have h63 : decide ((9223372036854775807 : Int) < (n : Int)) = false := by simp; omega
  clear hw0 hg0 hb0 hcc hrl hc
  by_cases h0 : n = 0
  · subst h0
    have hmk0 : (Instr.makeSlice 24 (.int .i64 0) (.int .i64 0)).run Try.prog w = .ok (.slice (some ⟨w.heap.size, 0, none⟩) 0 0) (w.alloc (.cells (rowC 0 (ones 0)) 3)) := hmk
    clear hmk
    have HF : Hid ((w.alloc (.cells (rowC 0 (ones 0)) 3)).heap[w.heap.size]? = some (.cells (rowC 0 (fun _ => 1)) 3 (0, 0))) := Lib.hid (World.alloc_heap_new w _)
    have hszi : (Try.prog.info? 3).map (·.size) = some 1 := by kernel_rfl
    have HSz := Lib.hid hszi
    clear hszi
    go_enter Try.func65, Try.ntmps65
    go_wp2_with fail
    refine HM.out.mono ?_
    rintro e w' ⟨rfl, rfl⟩
    go_upto_region 7 with fail
    go_wp2_with (refine wpList_copy_nothing (o := ⟨some 33, _, _, _, _, _⟩) rfl (.tmp 31) (.tmp 32) 24 24 rfl 3 Try.underlying24 HSz.out _ _ _ _ _ _ rfl rfl (by simp) ?_)
    go_loop [8] (fun i => i = .int .i64 0) (fun _ => 0)
    case atStart => exact rfl
    case round =>
      obtain rfl := hrel
      go_wp2
      go_ret
      exact ⟨w.heap.size, rfl, HF.out, Nat.le_refl _, HB0.out⟩
  · obtain ⟨c, hcz⟩ : ∃ c, c = 1 := ⟨1, rfl⟩
    go_enter Try.func65, Try.ntmps65
    go_wp2_with fail
    refine HM.out.mono ?_
    rintro e w' ⟨rfl, rfl⟩
    have hpos : 0 < (List.replicate 1 (Value.int .i64 1)).length → (some (⟨w.heap.size, 0, none⟩ : Addr)) = some ⟨w.heap.size, 0, none⟩ ∧ ∃ ad, some (⟨b, 0, none⟩ : Addr) = some ad ∧ ∀ j v, (List.replicate 1 (Value.int .i64 1))[j]? = some v → (w.alloc (.cells (rowC n (ones 0)) 3)).cell? (ad.add j) = some v := fun _ => ⟨rfl, _, rfl, fun j v hj => by
      cases j with
      | zero => simp at hj; rw [← hj]; exact HC0.out
      | succ j => simp at hj⟩
    have hn1 : (List.replicate 1 (Value.int .i64 1)).length = Nat.min 1 n := by show 1 = min 1 n; omega
    have hfit : 0 + (List.replicate 1 (Value.int .i64 1)).length ≤ (rowC n (ones 0)).toList.length := by rw [HRL.out]; simp; omega
    have hone : ∀ v ∈ List.replicate 1 (Value.int .i64 1), v.oneCell' = true := fun v hv => by simp at hv; rw [hv]; rfl
    have hszi : (Try.prog.info? 3).map (·.size) = some 1 := by kernel_rfl
    have HPos := Lib.hid hpos
    have HN1 := Lib.hid hn1
    have HFit := Lib.hid hfit
    have HOne := Lib.hid hone
    have HSz := Lib.hid hszi
    clear hpos hn1 hfit hone hszi
    go_upto_region 7 with fail
    go_wp2_with (refine wpList_copy_splice (o := ⟨some 33, _, _, _, _, _⟩) rfl (.tmp 31) (.tmp 32) 24 24 rfl 3 Try.underlying24 HSz.out (some ⟨w.heap.size, 0, none⟩) (some ⟨b, 0, none⟩) n n 1 1 rfl rfl w.heap.size 0 (rowC n (ones 0)).toList 3 HG0.out (List.replicate 1 (.int .i64 1)) HN1.out (fun h => ⟨rfl, (HPos.out h).2⟩) HFit.out HOne.out w.heap.size w HB0.out (Nat.le_refl _) ?_; intro w2 HG2 hB2)
    have hg2 := HG2.out
    rw [row_splice (n := n) (m := 0) (c := 1) (by omega)] at hg2
    have HR2 : Hid (w2.heap[w.heap.size]? = some (.cells (rowC n (ones 1)) 3 (0, 0))) := Lib.hid hg2
    have HB2 := Lib.hid hB2
    clear hg2 hB2 HG2 HPos HN1 HFit HOne HG0 HB0 HC0 HRL hmk HM
    go_loopw [8] (fun i wr => ∃ m : Nat, i = .int .i64 m ∧ 1 ≤ m ∧ m ≤ n ∧ Hid (wr.heap[w.heap.size]? = some (.cells (rowC n (ones m)) 3 (0, 0))) ∧ Hid (Below w.heap.size w wr)) (fun i _ => n - (intOf i).toNat)
    case atStart => exact ⟨1, rfl, Nat.le_refl _, by omega, HR2, HB2⟩
    case round =>
      clear HR2 HB2
      obtain ⟨m, rfl, hm1, hmn, HR, HB⟩ := hrel
      by_cases hlt : m < n
      · obtain ⟨c, hc⟩ : ∃ c, Nat.min m (n - m) = c := ⟨_, rfl⟩
        have hc1 : 1 ≤ c ∧ m + c ≤ n ∧ c ≤ m := by rw [← hc]; show 1 ≤ min m (n - m) ∧ m + min m (n - m) ≤ n ∧ min m (n - m) ≤ m; omega
        have hki : (m : Int) ≤ (n : Int) := by omega
        have hnm : ¬ n = m := by omega
        have hki2 : (m : Int) < (n : Int) := by omega
        have hk0 : (0 : Int) ≤ (m : Int) := by omega
        have hsub : ((n : Int) - (m : Int)).toNat = n - m := by omega
        have HC := Lib.hid hc
        have HHR : Hid (∀ W, Below w.heap.size w W → W.heap[w.heap.size]? = some (.cells (rowC n (ones m)) 3 (0, 0)) → W.heap[w.heap.size]? = some (.cells (rowC n (ones m)).toList.toArray 3 (0, 0))) := Lib.hid (fun W _ h => by rw [Array.toArray_toList]; exact h)
        clear hc
        have hcr : (List.replicate c (Value.int .i64 1)).length = Nat.min m (n - m) := by rw [List.length_replicate]; exact HC.out.symm
        have hcells : ∀ j v, (List.replicate c (Value.int .i64 1))[j]? = some v → wr.cell? ((⟨w.heap.size, 0, none⟩ : Addr).add j) = some v := fun j v hj => by
          rw [List.getElem?_replicate] at hj
          split at hj
          · cases hj
            rename_i hjc
            rw [addr_add]
            have := heap_cell HR.out (rowC_at (ones m) (b := j) (by omega))
            rw [show ones m j = 1 from if_pos (by omega)] at this
            simpa using this
          · cases hj
        have hfit : m + (List.replicate c (Value.int .i64 1)).length ≤ (rowC n (ones m)).toList.length := by rw [List.length_replicate]; simp [rowC]; omega
        have hone : ∀ v ∈ List.replicate c (Value.int .i64 1), v.oneCell' = true := fun v hv => by rw [List.eq_of_mem_replicate hv]; rfl
        have hgr : wr.heap[w.heap.size]? = some (.cells (rowC n (ones m)).toList.toArray 3 (0, 0)) := by rw [Array.toArray_toList]; exact HR.out
        have HCr := Lib.hid hcr
        have HCells := Lib.hid hcells
        have HFit := Lib.hid hfit
        have HOne := Lib.hid hone
        have HGr := Lib.hid hgr
        clear hcr hcells hfit hone hgr HHR
        go_upto_region 9 with fail
        go_region_law (refine step_copy_splice rfl (.tmp 41) (.tmp 44) 24 24 rfl 3 Try.underlying24 HSz.out (some ⟨w.heap.size, m, none⟩) (some ⟨w.heap.size, 0, none⟩) (n - m) (n - m) m n (by simp [Act.eval, Act.put]) (by simp [Act.eval, Act.put]) w.heap.size m (rowC n (ones m)).toList 3 HGr.out (List.replicate c (.int .i64 1)) HCr.out (fun _ => ⟨rfl, _, rfl, HCells.out⟩) HFit.out HOne.out w.heap.size w HB.out.drew (Nat.le_refl _) ?_; intro w4 HG4 hB4)
        all_goals
          have hg4 := HG4.out
          rw [row_splice (n := n) (m := m) (c := c) (by omega)] at hg4
          have HR4 : Hid (w4.heap[w.heap.size]? = some (.cells (rowC n (ones (m + c))) 3 (0, 0))) := Lib.hid hg4
          have HB4 := Lib.hid hB4
          clear hg4 hB4 HG4
          have hw5 : IntKind.i64.wrap ((m : Int) + (c : Int)) = (m : Int) + (c : Int) := IntWalk.i64_in _ (by omega)
          simp only [hw5, Act.put, List.getElem_toArray, List.getElem_cons_succ, List.getElem_cons_zero, List.setIfInBounds_toArray, List.set_cons_succ, List.set_cons_zero]
          go_roundw
          case rel =>
            refine ⟨_, _, _, _, _, _, _, _, _, _, _, _, _, _, ⟨m + c, ?_, by omega, by omega, HR4, HB4⟩, rfl⟩
            go_num
          case measure => simp [intOf]; omega
      · obtain rfl : m = n := by omega
        have HF : Hid (wr.heap[w.heap.size]? = some (.cells (rowC m (fun _ => 1)) 3 (0, 0))) := Lib.hid (by
          rw [HR.out]
          congr 2
          unfold rowC
          congr 1
          exact List.map_congr_left fun i hi => by unfold ones; rw [if_pos (List.mem_range.1 hi)])
        go_wp2
        go_ret
        exact ⟨w.heap.size, rfl, HF.out, Nat.le_refl _, HB.out⟩
end Go.Proofs.Ytepmgjohjeiopaa

namespace Go.Proofs.Ytepmgjohjeiopaa
open Go.RowKit Go.Shelf Rk

attribute [local go_sem] Oper.semAt_some
attribute [local go_sem, local simp] wide_fn

/-- What lies between a thing and others is added to the pulls. -/
def addP (f : Nat → Int) (l : List (Int × Int)) : Nat → Int := l.foldl (fun f p => upd f p.1.toNat (f p.1.toNat + p.2)) f
theorem addP_snoc (f : Nat → Int) (l : List (Int × Int)) (p : Int × Int) : addP f (l ++ [p]) = upd (addP f l) p.1.toNat (addP f l p.1.toNat + p.2) := by simp [addP]
/-- A part as a list. -/
def parts (n : Nat) (pf : Nat → Int) : List Int := (List.range n).map pf
/-- The state of the filling. -/
abbrev HvS := (Nat → Int) × (Nat → Int) × Int
def hvNx (ws : List Int) (n : Nat) (most : Int) (st : HvS) : Nat × Bool := nxF ws st.2.1 (most - st.2.2) (parts n st.1)
def hvAt (ws : List Int) (n : Nat) (F : Nat → Nat → Int) (most : Int) : Nat → HvS
  | 0 => (fun _ => 1, fun _ => 0, 0)
  | k + 1 =>
    let st := hvAt ws n F most k
    let nx := hvNx ws n most st
    if nx.2 = true then (upd st.1 nx.1 0, addP st.2.1 (rowOf n (F nx.1)), st.2.2 + ws.getD nx.1 0) else st
/-- The parts that come out. -/
def halveF (ws : List Int) (n : Nat) (F : Nat → Nat → Int) (most : Int) : List Int := parts n (hvAt ws n F most n).1
/-- How many are left. -/
def left1 (pf : Nat → Int) : Nat → Nat
  | 0 => 0
  | n + 1 => left1 pf n + if pf n = 1 then 1 else 0
theorem parts_getD {n : Nat} (pf : Nat → Int) {i : Nat} (h : i < n) : (parts n pf).getD i 0 = pf i := by simp [parts, List.getD, h]
theorem parts_length (n : Nat) (pf : Nat → Int) : (parts n pf).length = n := by simp [parts]
theorem nxS_mem {ws : List Int} {f : Nat → Int} {room : Int} {Q : Nat → Prop} : ∀ (D : List Int) (st : Nat × Bool), (st.2 = true → Q st.1) → (∀ x ∈ D, ∃ i : Nat, x = (i : Int) ∧ (ws.getD i 0 ≤ room → Q i)) → (D.foldl (nxStep ws f room) st).2 = true → Q (D.foldl (nxStep ws f room) st).1
  | [], st, h, _ => h
  | x :: D, st, h, hD => by
    obtain ⟨i, rfl, h2⟩ := hD x (List.mem_cons_self ..)
    refine nxS_mem D _ ?_ (fun y hy => hD y (List.mem_cons_of_mem _ hy))
    unfold nxStep
    split
    · rename_i hc
      intro _
      rw [Int.toNat_natCast] at hc ⊢
      exact h2 hc.1
    · exact h
/-- What goes in next was in part 1, and there is room for it. -/
theorem nx_ok {ws : List Int} {n : Nat} {f : Nat → Int} {room : Int} {pf : Nat → Int} (h : (nxF ws f room (parts n pf)).2 = true) : (nxF ws f room (parts n pf)).1 < n ∧ pf (nxF ws f room (parts n pf)).1 = 1 ∧ ws.getD (nxF ws f room (parts n pf)).1 0 ≤ room := by
  refine nxS_mem (Q := fun i => i < n ∧ pf i = 1 ∧ ws.getD i 0 ≤ room) _ _ (fun h => by cases h) (fun x hx => ?_) h
  obtain ⟨i, h1, h2, h3⟩ := mem_sideL.1 hx
  rw [parts_length] at h1
  rw [parts_getD pf h1] at h2
  exact ⟨i, h3, fun hr => ⟨h1, h2, hr⟩⟩
theorem left1_upd {pf : Nat → Int} {i : Nat} (h1 : pf i = 1) : ∀ n, left1 pf n = left1 (upd pf i 0) n + if i < n then 1 else 0
  | 0 => rfl
  | n + 1 => by
    have ih := left1_upd h1 n
    simp only [left1]
    by_cases e : n = i
    · subst e
      rw [ih, if_neg (Nat.lt_irrefl _), if_pos (Nat.lt_succ_self _), if_pos h1]
      simp [upd]
    · rw [ih]
      have : upd pf i 0 n = pf n := by simp [upd, e]
      rw [this]
      by_cases h2 : i < n
      · have e1 : (if i < n then 1 else 0) = 1 := if_pos h2
        have e2 : (if i < n + 1 then 1 else 0) = 1 := if_pos (by omega)
        omega
      · have e1 : (if i < n then 1 else 0) = 0 := if_neg h2
        have e2 : (if i < n + 1 then 1 else 0) = 0 := if_neg (by omega)
        omega
theorem left1_le (pf : Nat → Int) : ∀ n, left1 pf n ≤ n
  | 0 => Nat.le_refl _
  | n + 1 => by have := left1_le pf n; simp only [left1]; split <;> omega
theorem hv_step {ws : List Int} {n : Nat} {F : Nat → Nat → Int} {most : Int} {k : Nat} (h : (hvNx ws n most (hvAt ws n F most k)).2 = true) : hvAt ws n F most (k + 1) = (upd (hvAt ws n F most k).1 (hvNx ws n most (hvAt ws n F most k)).1 0, addP (hvAt ws n F most k).2.1 (rowOf n (F (hvNx ws n most (hvAt ws n F most k)).1)), (hvAt ws n F most k).2.2 + ws.getD (hvNx ws n most (hvAt ws n F most k)).1 0) := by
  simp only [hvAt]; exact if_pos h
theorem hv_stay {ws : List Int} {n : Nat} {F : Nat → Nat → Int} {most : Int} {k : Nat} (h : ¬ (hvNx ws n most (hvAt ws n F most k)).2 = true) : ∀ j, hvAt ws n F most (k + j) = hvAt ws n F most k
  | 0 => rfl
  | j + 1 => by
    have ih := hv_stay h j
    show hvAt ws n F most ((k + j) + 1) = _
    simp only [hvAt]
    rw [ih]
    exact if_neg h
/-- Each step takes one of part 1: so there are at most n. -/
theorem hv_left {ws : List Int} {n : Nat} {F : Nat → Nat → Int} {most : Int} : ∀ {k : Nat}, (∀ j, j < k → (hvNx ws n most (hvAt ws n F most j)).2 = true) → left1 (hvAt ws n F most k).1 n + k = n
  | 0, _ => by
    have : ∀ m, left1 (fun _ => (1 : Int)) m = m := fun m => by
      induction m with
      | zero => rfl
      | succ m ih => simp [left1, ih]
    exact this n
  | k + 1, h => by
    have ih := hv_left (k := k) (fun j hj => h j (by omega))
    have hs := h k (Nat.lt_succ_self k)
    obtain ⟨h1, h2, _⟩ := nx_ok hs
    rw [hv_step hs]
    have := left1_upd h2 n
    rw [if_pos h1] at this
    show left1 (upd _ _ 0) n + (k + 1) = n
    unfold hvNx
    omega
theorem hv_end {ws : List Int} {n : Nat} {F : Nat → Nat → Int} {most : Int} {k : Nat} (h : ∀ j, j < k → (hvNx ws n most (hvAt ws n F most j)).2 = true) (he : ¬ (hvNx ws n most (hvAt ws n F most k)).2 = true) : halveF ws n F most = parts n (hvAt ws n F most k).1 := by
  have hk := hv_left h
  obtain ⟨j, hj⟩ : ∃ j, n = k + j := ⟨n - k, by omega⟩
  unfold halveF
  have := hv_stay he j
  rw [← hj] at this
  rw [this]
/-- What is in part 0 is no heavier than most, once there is any. -/
theorem hv_room {ws : List Int} (hw : ∀ x ∈ ws, 1 ≤ x ∧ x ≤ 1099511627776) {n : Nat} (hn : n = ws.length) {F : Nat → Nat → Int} {most : Int} : ∀ k, (hvAt ws n F most k).2.2 = 0 ∨ (0 < (hvAt ws n F most k).2.2 ∧ (hvAt ws n F most k).2.2 ≤ most)
  | 0 => .inl rfl
  | k + 1 => by
    have ih := hv_room hw hn (F := F) (most := most) k
    by_cases h : (hvNx ws n most (hvAt ws n F most k)).2 = true
    · rw [hv_step h]
      obtain ⟨h1, _, h3⟩ := nx_ok h
      have h4 := getD_wts hw (k := (hvNx ws n most (hvAt ws n F most k)).1) (by rw [← hn]; exact h1)
      right
      unfold hvNx at h4 ⊢
      show 0 < _ + _ ∧ _ + _ ≤ most
      omega
    · have := hv_stay h 1
      rw [this]; exact ih
end Go.Proofs.Ytepmgjohjeiopaa

namespace Go.Proofs.Ytepmgjohjeiopaa
open Go.RowKit Go.Shelf Rk

attribute [local go_sem] Oper.semAt_some
attribute [local go_sem, local simp] wide_fn

theorem addP_bd {M : Int} : ∀ (l : List (Int × Int)) (f : Nat → Int), (∀ b, 0 ≤ f b ∧ f b ≤ M) → (∀ x ∈ l, 0 ≤ x.2 ∧ x.2 ≤ 1099511627776) → ∀ b, 0 ≤ addP f l b ∧ addP f l b ≤ M + 1099511627776 * (l.length : Int)
  | [], f, h, _, b => by have := h b; simp only [addP, List.foldl_nil, List.length_nil]; omega
  | x :: l, f, h, hl, b => by
    have hx := hl x (List.mem_cons_self ..)
    have ih := addP_bd (M := M + 1099511627776) l (upd f x.1.toNat (f x.1.toNat + x.2)) (fun b => by
      have h1 := h b
      have h2 := h x.1.toNat
      unfold upd
      split <;> omega) (fun y hy => hl y (List.mem_cons_of_mem _ hy)) b
    show 0 ≤ addP (upd f x.1.toNat (f x.1.toNat + x.2)) l b ∧ addP (upd f x.1.toNat (f x.1.toNat + x.2)) l b ≤ _
    rw [List.length_cons]
    omega
theorem hv_bd {ws : List Int} {n : Nat} (hn : n ≤ 30) {F : Nat → Nat → Int} (ht : Tab n F) {most : Int} : ∀ k, ∀ b, 0 ≤ (hvAt ws n F most k).2.1 b ∧ (hvAt ws n F most k).2.1 b ≤ 32985348833280 * (k : Int)
  | 0, b => by simp [hvAt]
  | k + 1, b => by
    have ih := hv_bd hn ht (ws := ws) (most := most) k
    by_cases h : (hvNx ws n most (hvAt ws n F most k)).2 = true
    · rw [hv_step h]
      have h1 := rowOf_length n (F (hvNx ws n most (hvAt ws n F most k)).1)
      have := addP_bd (rowOf n (F (hvNx ws n most (hvAt ws n F most k)).1)) _ ih (fun x hx => by
        obtain ⟨b, _, h2, rfl⟩ := mem_rowOf.1 hx
        exact ⟨by show 0 ≤ F _ b; omega, ht.hi _ b⟩) b
      show 0 ≤ addP _ _ b ∧ addP _ _ b ≤ _
      omega
    · have e := hv_stay h 1
      rw [e]; have := ih b; omega
/-- What lies while a graph is halved. -/
structure HvR (w : World) (n pb qb xb : Nat) (pf f : Nat → Int) (Ds : List Nat) (W : World) : Prop where
  part : W.heap[pb]? = some (.cells (rowC n pf) 3 (0, 0))
  pull : W.heap[qb]? = some (.cells (rowC n f) 2 (0, 0))
  box : Boxed W xb 22 (.slice (some ⟨qb, 0, none⟩) n n)
  nodup : Ds.Nodup
  marks : ∀ D ∈ Ds, w.heap.size ≤ D ∧ W.heap[D]? = some (.deferred (some []))
  below : Below w.heap.size w W
  l1 : w.heap.size ≤ pb ∧ w.heap.size ≤ qb ∧ w.heap.size ≤ xb
section
variable {w W W' : World} {n pb qb xb : Nat} {pf f : Nat → Int} {Ds : List Nat}
theorem HvR.on (h : HvR w n pb qb xb pf f Ds W) (hb : Below W.heap.size W W') : HvR w n pb qb xb pf f Ds W' :=
  ⟨heap_below h.part hb (heap_lt h.part), heap_below h.pull hb (heap_lt h.pull), heap_below h.box hb (heap_lt h.box), h.nodup, fun D hD => ⟨(h.marks D hD).1, heap_below (h.marks D hD).2 hb (heap_lt (h.marks D hD).2)⟩, h.below.trans (hb.mono h.below.size), h.l1⟩
theorem ty_ne {W : World} {k k' : Nat} {cs cs' : Array Value} {t t' : TypeId} {fr fr' : Nat × Nat} (a : W.heap[k]? = some (.cells cs t fr)) (b : W.heap[k']? = some (.cells cs' t' fr')) (ht : t ≠ t') : k' ≠ k := fun e => by
  rw [e, a] at b
  injection b with b
  injection b with b1 b2 b3
  exact ht b2
theorem HvR.setPart (h : HvR w n pb qb xb pf f Ds W) {i : Nat} (hi : i < n) (v : Int) : HvR w n pb qb xb (upd pf i v) f Ds (W.setCell ⟨pb, i, none⟩ (.int .i64 v)) := by
  have ht : Turned (fun c => c = pb) W (W.setCell ⟨pb, i, none⟩ (.int .i64 v)) := Turned.set _ _ _ _
  have hp := heap_set h.part i (.int .i64 v)
  rw [rowC_set pf hi v] at hp
  exact ⟨hp, ht.old h.pull (ty_ne h.part h.pull (by decide)), ht.old h.box (ty_ne h.part h.box (by decide)), h.nodup, fun D hD => ⟨(h.marks D hD).1, (KeepsOthers.setCell W ⟨pb, i, none⟩ (.int .i64 v)).same D _ (h.marks D hD).2 rfl⟩, h.below.setCell (p := ⟨pb, i, none⟩) h.l1.1 _, h.l1⟩
theorem HvR.setPull (h : HvR w n pb qb xb pf f Ds W) {i : Nat} (hi : i < n) (v : Int) : HvR w n pb qb xb pf (upd f i v) Ds (W.setCell ⟨qb, i, none⟩ (.int .i64 v)) := by
  have ht : Turned (fun c => c = qb) W (W.setCell ⟨qb, i, none⟩ (.int .i64 v)) := Turned.set _ _ _ _
  have hp := heap_set h.pull i (.int .i64 v)
  rw [rowC_set f hi v] at hp
  exact ⟨ht.old h.part (ty_ne h.pull h.part (by decide)), hp, ht.old h.box (ty_ne h.pull h.box (by decide)), h.nodup, fun D hD => ⟨(h.marks D hD).1, (KeepsOthers.setCell W ⟨qb, i, none⟩ (.int .i64 v)).same D _ (h.marks D hD).2 rfl⟩, h.below.setCell (p := ⟨qb, i, none⟩) h.l1.2.1 _, h.l1⟩
/-- Kept while others turn memory of their own. -/
theorem HvR.own {β : Type} (B : Nat) (hB : ∀ D ∈ Ds, D < B) (hw : w.heap.size ≤ B) (ff : β → Nat → Int) : OwnFrom B (fun (s : β) X => HvR w n pb qb xb pf (ff s) Ds X) := fun s A X row hs hg hr => by
  have hk : ∀ (k : Nat) (cs : Array Value) (t : TypeId) (fr : Nat × Nat), A.heap[k]? = some (.cells cs t fr) → X.heap[k]? = some (.cells cs t fr) := fun k cs t fr h => (hg.block k (heap_lt h) (fun e => by obtain ⟨o, ho, hc⟩ := (hr k e.symm).2; rw [h] at ho; cases ho; cases hc)).trans h
  exact ⟨hk _ _ _ _ hs.part, hk _ _ _ _ hs.pull, hk _ _ _ _ hs.box, hs.nodup, fun D hD => ⟨(hs.marks D hD).1, (hg.block D (heap_lt (hs.marks D hD).2) (fun e => by have := (hr D e.symm).1; have := hB D hD; omega)).trans (hs.marks D hD).2⟩, hs.below.grown hg hs.below.size (fun r e => by have := (hr r e).1; omega), hs.l1⟩
end
end Go.Proofs.Ytepmgjohjeiopaa

namespace Go.Proofs.Ytepmgjohjeiopaa
open Go.RowKit Go.Shelf Rk

attribute [local go_sem] Oper.semAt_some
attribute [local go_sem, local simp] wide_fn

theorem hv_01 {ws : List Int} {n : Nat} {F : Nat → Nat → Int} {most : Int} : ∀ k i, (hvAt ws n F most k).1 i = 0 ∨ (hvAt ws n F most k).1 i = 1
  | 0, i => .inr rfl
  | k + 1, i => by
    have ih := hv_01 (ws := ws) (n := n) (F := F) (most := most) k i
    by_cases h : (hvNx ws n most (hvAt ws n F most k)).2 = true
    · rw [hv_step h]
      show upd _ _ 0 i = 0 ∨ upd _ _ 0 i = 1
      unfold upd
      split
      · exact .inl rfl
      · exact ih
    · have e := hv_stay h 1
      rw [e]; exact ih
set_option maxRecDepth 100000 in
set_option maxHeartbeats 4000000 in
theorem halve_any {w : World} {g nb : Nat} {ws : List Int} {F : Nat → Nat → Int} (h : IsG w g nb ws F) (hn30 : ws.length ≤ 30) (most : Int) (hm1 : -9223372036854775808 ≤ most) (hm2 : most ≤ 9223372036854775807) :
    Calls Try.prog 33 #[.pointer (some ⟨g, 0, none⟩), .int .i64 most] w fun e w' => ∃ pb, e = .returned (.slice (some ⟨pb, 0, none⟩) ws.length ws.length) ∧ w'.heap[pb]? = some (.cells (rowC ws.length (hvAt ws ws.length F most ws.length).1) 3 (0, 0)) ∧ w.heap.size ≤ pb ∧ Below w.heap.size w w' := by
  have HG : Hid (∀ W, Below w.heap.size w W → IsG W g nb ws F) := Lib.hid (fun W hW => h.below hW)
  have HTab := Lib.hid h.tab
  have HWs := Lib.hid h.wts
  obtain ⟨n, hn⟩ : ∃ n, ws.length = n := ⟨_, rfl⟩
  have HN := Lib.hid hn
  have HLe : Hid (∀ W, Below w.heap.size w W → Calls Try.prog 53 #[.pointer (some ⟨g, 0, none⟩)] W (fun e w' => e = .returned (.int .i64 (n : Int)) ∧ W = w')) := Lib.hid (fun W hW => by have := glen_any (h.below hW); rwa [hn] at this)
  rw [hn] at hn30 ⊢
  clear h hn
  have b0 : Below w.heap.size w (w.alloc (.cells #[.int .i64 1] 3)) := (Below.refl _ w).alloc (Nat.le_refl _) _
  have hc1 : (w.alloc (.cells #[.int .i64 1] 3)).cell? ⟨w.heap.size, 0, none⟩ = some (.int .i64 1) := heap_cell (heap_new (w := w) _ rfl) rfl
  have HRp := Lib.hid (repeat_any hc1 (by simp) n hn30)
  have HL1 := Lib.hid (HLe.out _ b0)
  have HB0 := Lib.hid b0
  clear b0 hc1
  refine (callsIn_wide (n := 5)).1 ?_
  refine callsIn_of_wp_marks Try.func33 rfl trivial ?_ rfl
  simp only [Try.ntmps33, List.size_toArray, List.length_cons, List.length_nil, Nat.reduceAdd, Nat.reduceSub, Array.replicate_succ, Array.replicate_zero, List.push_toArray, List.append_toArray, List.nil_append, List.cons_append]
  gi_wp2_with (first
    | (gi_at_call 53; refine (callsIn_wide.2 HL1.out).mono ?_; clear HL1; rintro e w' ⟨rfl, rfl⟩)
    | (gi_at_call 65; refine (callsIn_wide.2 HRp.out).mono ?_; clear HRp; rintro e w2 ⟨pb, rfl, hpr, hpl, hb2⟩; have HPr := Lib.hid hpr; have HB2 := Lib.hid (HB0.out.trans (hb2.mono HB0.out.size)); have HPl := Lib.hid (Nat.le_trans HB0.out.size hpl); have HL2 := Lib.hid (HLe.out _ HB2.out); have hmk := madeRow w2 n (by omega); clear hpr hpl hb2 HB0)
    | (gi_at_call 53; refine (callsIn_wide.2 HL2.out).mono ?_; clear HL2; rintro e w' ⟨rfl, rfl⟩))
  have z2 := HB2.out.size
  have hg1 : (w2.alloc (.cells (rowC n (noTab 0)) 2)).heap[w2.heap.size]? = some (.cells (rowC n (noTab 0)) 2 (0, 0)) := World.alloc_heap_new w2 _
  have hR0 : HvR w n pb w2.heap.size (w2.heap.size + 1) (fun _ => 1) (fun _ => 0) [] ((w2.alloc (.cells (rowC n (noTab 0)) 2)).alloc (.cells #[.slice (some ⟨w2.heap.size, 0, none⟩) n n] 22)) :=
    ⟨heap_alloc (heap_alloc HPr.out _) _, heap_alloc hg1 _, by have := Boxed.new (w2.alloc (.cells (rowC n (noTab 0)) 2)) 22 (.slice (some ⟨w2.heap.size, 0, none⟩) n n); rwa [World.size_alloc] at this, List.nodup_nil, fun D hD => (by cases hD), (HB2.out.alloc z2 _).alloc (by simp; omega) _, HPl.out, z2, by omega⟩
  have HR0 := Lib.hid hR0
  clear hg1 hR0 hmk HPr HPl
  refine wpIn_loop_ghost (fun gg a wr => ∃ (k : Nat) (st : HvS) (u2 u3 u8 u9 u10 u11 u12 u13 u14 u15 u16 u17 u18 u19 u20 u21 u22 u23 u24 u25 u26 u27 u28 u29 u30 u31 u32 u33 u34 u35 u36 u37 u38 u39 u40 u41 u42 u43 u44 u45 u46 u47 u48 u49 u50 u51 u52 u53 : Value) (Ds : List Nat), gg = n - k ∧ Hid (hvAt ws n F most k = st) ∧ Hid (∀ j, j < k → (hvNx ws n most (hvAt ws n F most j)).2 = true) ∧ Hid (HvR w n pb w2.heap.size (w2.heap.size + 1) st.1 st.2.1 Ds wr) ∧ a = { tmps := #[.pointer (some ⟨g, 0, none⟩), .int .i64 most, u2, u3, .slice none 0 0, .slice (some ⟨pb, 0, none⟩) n n, .pointer (some ⟨w2.heap.size + 1, 0, none⟩), .int .i64 st.2.2, u8, u9, u10, u11, u12, u13, u14, u15, u16, u17, u18, u19, u20, u21, u22, u23, u24, u25, u26, u27, u28, u29, u30, u31, u32, u33, u34, u35, u36, u37, u38, u39, u40, u41, u42, u43, u44, u45, u46, u47, u48, u49, u50, u51, u52, u53], defers := Ds.map mark }) n ?_ ?_
  · exact ⟨0, _, _, _, _, _, _, _, _, _, _, _, _, _, _, _, _, _, _, _, _, _, _, _, _, _, _, _, _, _, _, _, _, _, _, _, _, _, _, _, _, _, _, _, _, _, _, _, _, _, [], rfl, Lib.hid rfl, Lib.hid (fun j hj => absurd hj (Nat.not_lt_zero _)), HR0, rfl⟩
  · rintro gg a wr ⟨k, st, u2, u3, u8, u9, u10, u11, u12, u13, u14, u15, u16, u17, u18, u19, u20, u21, u22, u23, u24, u25, u26, u27, u28, u29, u30, u31, u32, u33, u34, u35, u36, u37, u38, u39, u40, u41, u42, u43, u44, u45, u46, u47, u48, u49, u50, u51, u52, u53, Ds, rfl, HSt, HOk, HR, rfl⟩
    clear HR0
    obtain ⟨pf, f, hv⟩ := st
    have hroom : hv = 0 ∨ (0 < hv ∧ hv ≤ most) := by have := hv_room HWs.out HN.out.symm (F := F) (most := most) k; rw [HSt.out] at this; exact this
    have hw1 : IntKind.i64.wrap (most - hv) = most - hv := IntWalk.i64_in _ (by omega)
    have hkn : k ≤ n := by have := hv_left HOk.out; omega
    have hfb := hv_bd hn30 (by rw [← HN.out]; exact HTab.out) (ws := ws) (most := most) k
    rw [HSt.out] at hfb
    have HFb := Lib.hid hfb
    have cB := HR.out.box.cell
    have hpi : IntsAt .i64 wr.heap.size wr (some ⟨pb, 0, none⟩) pb 0 n (parts n pf) := ints_rowC HR.out.part (by omega) (fun i hi => by have := hv_01 (ws := ws) (n := n) (F := F) (most := most) k i; rw [HSt.out] at this; rcases this with e | e <;> (simp only at e; rw [e]; decide))
    have HNx := Lib.hid (next_any (cap := n) (HG.out wr HR.out.below) (by rw [HN.out]; exact hn30) hpi (fun e => by cases e) HN.out.symm (by rw [HN.out]; exact HR.out.pull) (most - hv))
    rw [HN.out] at HNx
    obtain ⟨nx, hnx⟩ : ∃ nx, nxF ws f (most - hv) (parts n pf) = nx := ⟨_, rfl⟩
    rw [hnx] at HNx
    have HNX := Lib.hid hnx
    clear hfb hpi hnx
    obtain ⟨i, ok⟩ := nx
    have HNXs : Hid (hvNx ws n most (hvAt ws n F most k) = (i, ok)) := Lib.hid (by rw [HSt.out]; exact HNX.out)
    cases ok with
    | false =>
      gi_wp2_with (gi_at_call 66; refine (callsIn_wide.2 HNx.out).mono ?_; clear HNx; rintro e x1 ⟨rfl, hb1⟩; have HR1 := Lib.hid (HR.out.on hb1); clear hb1)
      have HE : Hid (hvAt ws n F most n = (pf, f, hv)) := Lib.hid (by
        have hnk : ¬ (hvNx ws n most (hvAt ws n F most k)).2 = true := by rw [HNXs.out]; simp
        obtain ⟨j, hj⟩ : ∃ j, n = k + j := ⟨n - k, by omega⟩
        have := hv_stay hnk j
        rw [← hj] at this
        rw [this, HSt.out])
      refine leaves_marks (B := w.heap.size) (Pp := fun X => X.heap[pb]? = some (.cells (rowC n pf) 3 (0, 0)) ∧ Below w.heap.size w X) (fun A l o o' hP hl ho hc => ⟨((grownBy_putObj' A l o').block pb (heap_lt hP.1) (fun e => by cases e; rw [hP.1] at ho; cases ho; cases hc)).trans hP.1, hP.2.grown (grownBy_putObj' A l o') hP.2.size (fun r e => by cases e; exact hl)⟩) (fun X hX => ⟨_, by simp [results, Try.f33, go_sem], pb, rfl, by rw [HE.out]; exact hX.1, HR.out.l1.1, hX.2⟩) Ds x1 HR1.out.nodup HR1.out.marks ⟨HR1.out.part, HR1.out.below⟩
    | true =>
      obtain ⟨hi1, hi2, hi3⟩ := nx_ok (ws := ws) (n := n) (f := f) (room := most - hv) (pf := pf) (by rw [HNX.out])
      rw [HNX.out] at hi1 hi2 hi3
      simp only at hi1 hi2 hi3
      have hwi := getD_wts HWs.out (k := i) (by rw [HN.out]; exact hi1)
      have hib : (i : Int) < (n : Int) := by omega
      obtain ⟨wi, hwi2⟩ : ∃ wi, ws.getD i 0 = wi := ⟨_, rfl⟩
      rw [hwi2] at hwi hi3
      have HWi := Lib.hid hwi2
      have hw2 : IntKind.i64.wrap (hv + wi) = hv + wi := IntWalk.i64_in _ (by omega)
      clear hwi2 hi2
      gi_wp2_with (gi_at_call 66; refine (callsIn_wide.2 HNx.out).mono ?_; clear HNx; rintro e x1 ⟨rfl, hb1⟩; have HR1 := Lib.hid (HR.out.on hb1); clear hb1; have c5 := heap_cell HR1.out.part (rowC_at pf hi1); have f5 := heap_frozen HR1.out.part i; have HR2 := Lib.hid (HR1.out.setPart hi1 0); have HWt := Lib.hid (weight_lit (v := wi) (HG.out _ HR2.out.below) (i : Int) (by unfold wtOf; rw [if_pos ⟨by omega, by rw [HN.out]; omega⟩, Int.toNat_natCast, HWi.out])))
      refine (callsIn_wide.2 HWt.out).mono ?_
      clear HWt c5 f5
      rintro e _ ⟨rfl, rfl⟩
      generalize x1.setCell ⟨pb, i, none⟩ (.int .i64 0) = x2 at *
      have hnr := near_q (i : Int) (HG.out w (Below.refl _ _)) HR2.out.below
      rw [HN.out, nearD_nat F hi1] at hnr
      have HNr := Lib.hid hnr
      have HMEM : Hid (∀ x ∈ rowOf n (F i), (∃ b : Nat, x.1 = (b : Int) ∧ b < n) ∧ 0 ≤ x.2 ∧ x.2 ≤ 1099511627776) := Lib.hid (fun x hx => by
        obtain ⟨b, h1, h2, rfl⟩ := mem_rowOf.1 hx
        exact ⟨⟨b, rfl, h1⟩, by show 0 ≤ F i b; omega, HTab.out.hi i b⟩)
      have HLen := Lib.hid (rowOf_length n (F i))
      have HStep : Hid (hvAt ws n F most (k + 1) = (upd pf i 0, addP f (rowOf n (F i)), hv + wi)) := Lib.hid (by rw [hv_step (by rw [HNXs.out]), HNXs.out, HSt.out, HWi.out])
      have HOk' : Hid (∀ j, j < k + 1 → (hvNx ws n most (hvAt ws n F most j)).2 = true) := Lib.hid (fun j hj => by
        by_cases e : j = k
        · rw [e, HNXs.out]
        · exact HOk.out j (by omega))
      have hk1 : k + 1 ≤ n := by have := hv_left HOk'.out; omega
      clear hnr
      generalize rowOf n (F i) = D at *
      gi_wp2_with (gi_at_call 62; refine (callsIn_wide.2 HNr.out).mono ?_; clear HNr; rintro e x3 ⟨sv, rfl, hsq, hB3⟩)
      have HR3 := Lib.hid (HR2.out.on hB3)
      have hz3 := HR3.out.below.size
      obtain ⟨gf, lb, rfl, hen, hst⟩ := hsq
      have hDs : ∀ D' ∈ Ds, D' < x3.heap.size := fun D' hD' => heap_lt (HR3.out.marks D' hD').2
      clear hB3
      refine wpIn_rangeFunc_ownG rfl (by omega) (gf := gf) (lb := lb) rfl trivial hen
        (hst 4).stopsF belowK_t (belowK_b (by omega)) (Below.refl _ _) (fun _ => rfl)
        (fun pre W => HvR w n pb w2.heap.size (w2.heap.size + 1) (upd pf i 0) (addP f (pre.map D.get)) Ds W)
        (fun _ _ _ => False)
        (HvR.own x3.heap.size hDs (by omega) (fun pre : List (Fin D.length) => addP f (pre.map D.get)))
        (fun _ _ _ _ _ hs _ _ => hs)
        HR3.out
        ?_ ?assign ?body ?done ?stop
      case assign =>
        intro l x W K hK
        unfold encP
        gi_wp2
        exact hK
      case body =>
        rintro l pre x W hI hltx
        obtain ⟨⟨b, hb1, hb2⟩, hx0, hx1⟩ := HMEM.out _ (List.getElem_mem x.isLt)
        have hS : addP f ((pre ++ [x]).map D.get) = upd (addP f (pre.map D.get)) (D[x.val]).1.toNat (addP f (pre.map D.get) (D[x.val]).1.toNat + (D[x.val]).2) := by
          rw [List.map_append, List.map_cons, List.map_nil, addP_snoc, List.get_eq_getElem]
        have hbd := addP_bd (pre.map D.get) f HFb.out (fun y hy => by
          obtain ⟨j, _, rfl⟩ := List.mem_map.1 hy
          exact (HMEM.out _ (List.getElem_mem j.isLt)).2)
        rw [List.length_map] at hbd
        have hll := HLen.out
        have hlp : pre.length < D.length := hltx
        clear hst
        generalize addP f (pre.map D.get) = f1 at *
        generalize D[x.val] = q at *
        obtain ⟨q1, q2⟩ := q
        simp only at hb1 hx0 hx1 hS
        subst hb1
        rw [Int.toNat_natCast] at hS
        have hfb := hbd b
        have HS := Lib.hid hS
        have HI := Lib.hid hI
        have cB := hI.box.cell
        have cP := heap_cell hI.pull (rowC_at f1 hb2)
        have fP := heap_frozen hI.pull b
        have hbb : (b : Int) < (n : Int) := by omega
        have hw5 : IntKind.i64.wrap (f1 b + q2) = f1 b + q2 := IntWalk.i64_in _ (by omega)
        clear hS hI hbd
        gi_wp2
        exact ⟨(KeepsOthers.setCell _ _ _).from _, (Below.refl _ _).setCell (p := ⟨w2.heap.size, b, none⟩) z2 _, by show HvR _ _ _ _ _ _ (addP f ((pre ++ [x]).map D.get)) _ _; rw [HS.out]; exact HI.out.setPull hb2 _⟩
      case done =>
        rintro E ys W hD rfl hI hK
        rw [get_finRange] at hI
        have HI := Lib.hid hI
        have HK := Lib.hid hK
        clear hI hK
        gi_wp2
        refine ⟨n - (k + 1), by omega, k + 1, (upd pf i 0, addP f D, hv + wi), _, _, _, _, _, _, _, _, _, _, _, _, _, _, _, _, _, _, _, _, _, _, _, _, _, _, _, _, _, _, _, _, _, _, _, _, _, _, _, _, _, _, _, _, _, _, _, _, E :: Ds, rfl, HStep, HOk', Lib.hid ⟨HI.out.part, HI.out.pull, HI.out.box, List.nodup_cons.2 ⟨fun h => by have := hDs E h; omega, HI.out.nodup⟩, fun D' hD' => ?_, HI.out.below, HI.out.l1⟩, rfl⟩
        rcases List.mem_cons.1 hD' with rfl | hD'
        · exact ⟨by omega, HK.out⟩
        · exact HI.out.marks D' hD'
      case stop =>
        rintro E c pre W hD hpre h hK
        exact h.elim
end Go.Proofs.Ytepmgjohjeiopaa
