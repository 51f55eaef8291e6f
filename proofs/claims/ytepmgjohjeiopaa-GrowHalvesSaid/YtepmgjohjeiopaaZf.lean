/- Contracts: the parts that no thing has. -/
import Derived.Test.YtepmgjohjeiopaaZa
import Derived.Test.YtepmgjohjeiopaaMu
import Derived.Test.YtepmgjohjeiopaaFi
import Derived.Laws.EntriesVeiled
set_option linter.unusedVariables false
set_option linter.unusedSectionVars false
namespace Go.Proofs.Ytepmgjohjeiopaa
open Go.RowKit Go.Shelf Rk

attribute [local go_sem] Oper.semAt_some

/-- The numbers below k of which g tells no. -/
def emptyL (g : Int → Bool) : Nat → List Int
  | 0 => []
  | k + 1 => emptyL g k ++ if g (k : Int) = true then [] else [(k : Int)]
theorem emptyL_add (g : Int → Bool) (k j : Nat) : emptyL g k <+: emptyL g (k + j) := by
  induction j with
  | zero => exact List.prefix_refl _
  | succ j ih => exact ih.trans (List.prefix_append _ _)
theorem emptyL_le (g : Int → Bool) {k j : Nat} (h : k ≤ j) : emptyL g k <+: emptyL g j := by
  obtain ⟨d, rfl⟩ : ∃ d, j = k + d := ⟨j - k, by omega⟩
  exact emptyL_add g k d
theorem emptyL_length (g : Int → Bool) (k : Nat) : (emptyL g k).length ≤ k := by
  induction k with
  | zero => exact Nat.le_refl _
  | succ k ih => rw [emptyL, List.length_append]; split <;> simp <;> omega
theorem emptyL_congr {g h : Int → Bool} (k : Nat) (hg : ∀ x, g x = h x) : emptyL g k = emptyL h k := by
  induction k with
  | zero => rfl
  | succ k ih => rw [emptyL, emptyL, ih, hg]
theorem wf_small (m : Nat) (h : m ≤ 1000000000) : (Lit.int .i64 (m : Int)).wf = true := by
  have h1 : IntKind.i64.min = -9223372036854775808 := by decide
  have h2 : IntKind.i64.max = 9223372036854775807 := by decide
  show (decide (IntKind.i64.min ≤ (m : Int)) && decide ((m : Int) ≤ IntKind.i64.max)) = true
  rw [h1, h2, Bool.and_eq_true, decide_eq_true_eq, decide_eq_true_eq]
  omega
def enc1 (x : Int) : Array Value := #[.int .i64 x]
/-- An iterator over numbers, whichever function; what it needs lies from lo on, below hi. -/
def IsSeq1 (W : World) (v : Value) (lo hi : Nat) (D : List Int) : Prop :=
  ∃ gf lb, v = .func (.func gf) #[] lb ∧ (∀ args w, (callFunc gf args).run Try.prog w = .ok (.enter gf args) w) ∧ ∀ n, 1 ≤ n → SeqP Fence.wide n Try.prog gf lb enc1 (Mid lo hi) D W
/-- What Empty's iterator needs. -/
structure EmpR (lo hi b1 b2 mb : Nat) (k : Int) (n : Nat) (g : Int → Bool) (W : World) : Prop where
  bk : Boxed W b1 3 (.int .i64 k)
  bm : Boxed W b2 117 (.map (some mb))
  set : SetI W Try.prog 3 mb n g
  l1 : lo ≤ b1 ∧ b1 < hi
  l2 : lo ≤ b2 ∧ b2 < hi
  l3 : lo ≤ mb ∧ mb < hi
theorem EmpR.mid {lo hi b1 b2 mb : Nat} {k : Int} {n : Nat} {g : Int → Bool} {W W' : World} (h : EmpR lo hi b1 b2 mb k n g W) (hm : Mid lo hi W W') : EmpR lo hi b1 b2 mb k n g W' := by
  refine ⟨(hm.block _ h.l1.1 h.l1.2).trans h.bk, (hm.block _ h.l2.1 h.l2.2).trans h.bm, ?_, h.l1, h.l2, h.l3⟩
  obtain ⟨D, h1, h2⟩ := h.set
  refine ⟨D, ?_, h2⟩
  obtain ⟨es, cl, h3, h4⟩ := h1
  exact ⟨es, cl, (hm.block _ h.l3.1 h.l3.2).trans h3, h4⟩
set_option maxRecDepth 100000 in
set_option maxHeartbeats 2000000 in
theorem empty1_in (n : Nat) (hn : 1 ≤ n) {lo hi b1 b2 mb nn : Nat} {k : Int} {g : Int → Bool} (hk : k ≤ 1000000) (w : World) (h : EmpR lo hi b1 b2 mb k nn g w) (hhi : hi ≤ w.heap.size) :
    SeqP Fence.wide n Try.prog 82 #[.pointer (some ⟨b1, 0, none⟩), .pointer (some ⟨b2, 0, none⟩)] enc1 (Mid lo hi) (emptyL g k.toNat) w := fun l J Jx W hW hJ hJx hY h0 => by
  have hR := h.mid (Mid.of_below hW hhi)
  have hsz := hW.size
  have HR := Lib.hid hR
  have ck := hR.bk.cell
  have HJ := Lib.hid hJ
  clear h hR hW hJ hJx
  refine callsIn_of_wp Try.func82 rfl trivial ?_ rfl
  simp only [Try.ntmps82, List.size_toArray, List.length_cons, List.length_nil, Nat.reduceAdd, Nat.reduceSub, Array.replicate_succ, Array.replicate_zero, List.push_toArray, List.append_toArray, List.nil_append, List.cons_append]
  gi_wp2
  gi_loopw [8] (fun i wr => ∃ j : Nat, i = .int .i64 j ∧ (j = 0 ∨ (j : Int) ≤ k) ∧ Hid (J (emptyL g j) wr) ∧ Hid (Mid lo hi W wr)) (fun i _ => k.toNat - (intOf i).toNat)
  case atStart => exact ⟨0, rfl, .inl rfl, Lib.hid h0, Lib.hid (Mid.refl _ _ _)⟩
  case round =>
    obtain ⟨j, rfl, hj, hJs, hM⟩ := hrel
    clear ck
    have hRr := HR.out.mid hM.out
    have cm := hRr.bm.cell
    by_cases hlt : (j : Int) < k
    · have hzr := hM.out.size
      have hal : Mid lo hi W (wr.alloc (.cells #[] 118)) := hM.out.trans (Mid.of_below ((Below.refl wr.heap.size wr).alloc (Nat.le_refl _) _) (by omega))
      have HS := Lib.hid hRr.set
      have hwf : (Lit.int .i64 (j : Int)).wf = true := wf_small j (by omega)
      clear hRr
      have hjk : j < k.toNat := by omega
      cases hgj : g (j : Int) with
      | true =>
        have HE : Hid (emptyL g (j + 1) = emptyL g j) := Lib.hid (by rw [emptyL, if_pos hgj, List.append_nil])
        have HJ1 := Lib.hid (HJ.out _ _ _ none hJs.out (World.grownBy_alloc wr (.cells #[] 118) none) (fun r e => by cases e))
        have HM1 := Lib.hid hal
        clear hal hY
        gi_wp2_with (gi_at_lookup; refine wpListIn_lookup_S rfl _ _ 117 rfl 3 118 Try.underlying117 Try.underlying3 (by rfl) mb nn g rfl HS.out (j : Int) rfl hwf ?_; rw [hgj])
        all_goals
          refine ⟨fun _ h => (by cases h), ?_⟩
          gi_wp2
          go_roundw
          case rel => exact ⟨j + 1, by go_num, by omega, by rw [HE.out]; exact HJ1, HM1⟩
          case measure => simp [intOf]; omega
      | false =>
        have HE : Hid (emptyL g (j + 1) = emptyL g j ++ [(j : Int)]) := Lib.hid (by rw [emptyL, if_neg (by rw [hgj]; simp)])
        have hp : emptyL g j ++ [(j : Int)] <+: emptyL g k.toNat := by rw [← HE.out]; exact emptyL_le g (by omega)
        obtain ⟨fn, tmps, assign, body, hy, hR⟩ := hY (emptyL g j) (j : Int) (wr.alloc (.cells #[] 118)) (HJ.out _ _ _ none hJs.out (World.grownBy_alloc wr _ none) (fun r e => by cases e)) hp
        dsimp only [enc1] at hy
        have HR1 := Lib.hid hR
        have HM1 := Lib.hid hal
        clear hal hY hR hp
        gi_wp2_with (gi_at_lookup; refine wpListIn_lookup_S rfl _ _ 117 rfl 3 118 Try.underlying117 Try.underlying3 (by rfl) mb nn g rfl HS.out (j : Int) rfl hwf ?_; rw [hgj])
        refine RoundIn.mono HR1.out ?_
        rintro e W3 (⟨rfl, hJ3, hk3⟩ | ⟨rfl, hJx3⟩)
        · have HJ3 := Lib.hid hJ3
          have HK3 := Lib.hid (HM1.out.trans hk3)
          clear hJ3 hk3
          gi_wp2
          go_roundw
          case rel => exact ⟨j + 1, by go_num, by omega, by rw [HE.out]; exact HJ3, HK3⟩
          case measure => simp [intOf]; omega
        · have HJX := Lib.hid hJx3
          clear hJx3
          gi_wp2
          refine bodyPost_ret (results_none rfl _ _ _) rfl ?_
          exact ⟨⟨_, rfl⟩, .inr ⟨emptyL g j ++ [(j : Int)], by rw [← HE.out]; exact emptyL_le g (by omega), HJX.out⟩⟩
    · have hkj : k.toNat = j := by omega
      have HJf : Hid (J (emptyL g k.toNat) wr) := by rw [hkj]; exact hJs
      gi_wp2
      go_end0
      exact ⟨⟨_, rfl⟩, .inl (by first | exact HJf.out | exact hJs.out)⟩
theorem EmpR.wide {lo hi hi' b1 b2 mb : Nat} {k : Int} {n : Nat} {g : Int → Bool} {W : World} (h : EmpR lo hi b1 b2 mb k n g W) (hh : hi ≤ hi') : EmpR lo hi' b1 b2 mb k n g W :=
  ⟨h.bk, h.bm, h.set, ⟨h.l1.1, by have := h.l1.2; omega⟩, ⟨h.l2.1, by have := h.l2.2; omega⟩, ⟨h.l3.1, by have := h.l3.2; omega⟩⟩
theorem EmpR.put {lo hi b1 b2 mb : Nat} {k : Int} {n n' : Nat} {g g' : Int → Bool} {W W' : World} (h : EmpR lo hi b1 b2 mb k n g W) (hs : SetI W' Try.prog 3 mb n' g') (hg : W.grownBy W' (some mb)) (h1 : b1 ≠ mb) (h2 : b2 ≠ mb) : EmpR lo hi b1 b2 mb k n' g' W' :=
  ⟨h.bk.kept hg (fun e => h1 (by cases e; rfl)), h.bm.kept hg (fun e => h2 (by cases e; rfl)), hs, h.l1, h.l2, h.l3⟩
theorem mem_take_succ' (zs : List Int) {j : Nat} (hj : j < zs.length) (x : Int) : x ∈ zs.take (j + 1) ↔ x = zs.getD j 0 ∨ x ∈ zs.take j := by
  rw [List.take_succ_eq_append_getElem hj, List.mem_append, List.mem_singleton, List.getD_eq_getElem?_getD, List.getElem?_eq_getElem hj]
  simp [or_comm]
/-- What the call leaves. -/
def EmptyPost (ms : List Int) (k : Int) (w : World) (e : Ending) (w' : World) : Prop :=
  ∃ b1 b2 mb n, e = .returned (.func (.func 82) #[] #[.pointer (some ⟨b1, 0, none⟩), .pointer (some ⟨b2, 0, none⟩)]) ∧ EmpR w.heap.size w'.heap.size b1 b2 mb k n (fun x => decide (x ∈ ms)) w' ∧ Below w.heap.size w w'
set_option maxRecDepth 100000 in
set_option maxHeartbeats 2000000 in
theorem empty_any {w : World} {a : Option Addr} {b off len cap : Nat} {ms : List Int} (hm : IntsAt .i64 w.heap.size w a b off len ms) (hlen : len ≤ 100000) (k : Int) :
    Calls Try.prog 60 #[.slice a len cap, .int .i64 k] w (EmptyPost ms k w) := by
  have b0 : Below w.heap.size w (((w.alloc (.cells #[.int .i64 k] 3)).alloc (.map #[] 0)).alloc (.cells #[.map (some (w.heap.size + 1))] 117)) := (((Below.refl _ w).alloc (Nat.le_refl _) _).alloc (by simp) _).alloc (by simp; omega) _
  have hE0 : EmpR w.heap.size (w.heap.size + 1 + 1 + 1) w.heap.size (w.heap.size + 1 + 1) (w.heap.size + 1) k 0 (fun _ => false) (((w.alloc (.cells #[.int .i64 k] 3)).alloc (.map #[] 0)).alloc (.cells #[.map (some (w.heap.size + 1))] 117)) := by
    refine ⟨((Boxed.new w _ _).alloc _).alloc _, ?_, ?_, by omega, by omega, by omega⟩
    · have := Boxed.new ((w.alloc (.cells #[.int .i64 k] 3)).alloc (.map #[] 0)) 117 (.map (some (w.heap.size + 1)))
      simp only [World.size_alloc] at this
      exact this
    · have h1 := SetI.made (w.alloc (.cells #[.int .i64 k] 3)) Try.prog 3
      rw [World.size_alloc] at h1
      exact h1.kept (World.grownBy_alloc _ _ none) (fun e => by cases e)
  have hln := hm.length
  have HM := Lib.hid hm
  have HL := Lib.hid hln
  have HE0 := Lib.hid hE0
  have HB0 := Lib.hid b0
  have hmm := @run_makeMap Try.prog
  clear hm hln hE0 b0
  go_enter Try.func60, Try.ntmps60
  go_wp2
  generalize ((w.alloc (.cells #[.int .i64 k] 3)).alloc (.map #[] 0)).alloc (.cells #[.map (some (w.heap.size + 1))] 117) = w1 at *
  go_loopw [11] (fun i wr => ∃ (j : Nat), i = .int .i64 j ∧ j ≤ len ∧ Hid (EmpR w.heap.size (w.heap.size + 1 + 1 + 1) w.heap.size (w.heap.size + 1 + 1) (w.heap.size + 1) k j (fun x => decide (x ∈ ms.take j)) wr) ∧ Hid (Below w.heap.size w wr)) (fun i _ => len - (intOf i).toNat)
  case atStart => exact ⟨0, rfl, Nat.zero_le _, Lib.hid ⟨HE0.out.bk, HE0.out.bm, HE0.out.set.congr (fun x => by simp), HE0.out.l1, HE0.out.l2, HE0.out.l3⟩, HB0⟩
  case round =>
    clear HE0 HB0
    obtain ⟨j, rfl, hj, HE, HB⟩ := hrel
    by_cases hlt : j < len
    · have hI := HM.out.kept HB.out (Nat.le_refl _)
      have hcell := hI.cell j hlt
      obtain rfl : a = some ⟨b, off, none⟩ := HM.out.addr.resolve_left (by omega)
      have hjz : j < ms.length := by rw [HL.out]; exact hlt
      have hwf : (Lit.int .i64 (ms.getD j 0)).wf = true := hI.fits _ (by rw [List.getD_eq_getElem?_getD, List.getElem?_eq_getElem hjz]; exact List.getElem_mem _)
      have HT : Hid (∀ x : Int, (decide (x = ms.getD j 0) || decide (x ∈ ms.take j)) = decide (x ∈ ms.take (j + 1))) := Lib.hid (fun x => by
        rw [← Bool.decide_or, decide_eq_decide]
        exact (mem_take_succ' ms hjz x).symm)
      generalize ms.getD j 0 = y at *
      have cm := HE.out.bm.cell
      have HS := Lib.hid HE.out.set
      have hzr := HB.out.size
      clear hI hjz
      go_wp2_with (at_mapUpdate; refine wpList_mapUpdate_S rfl _ _ _ 117 rfl 3 118 Try.underlying117 Try.underlying3 (w.heap.size + 1) j _ rfl HS.out (by unfold maxLen; omega) y rfl rfl hwf ?_; intro w8 hM8 hg8; have H8 := Lib.hid (And.intro hM8 hg8); clear hM8 hg8)
      go_roundw
      case rel =>
        obtain ⟨hM8, hg8⟩ := H8.out
        exact ⟨j + 1, by go_num, by omega, Lib.hid (HE.out.put (hM8.congr HT.out) hg8 (by omega) (by omega)), Lib.hid (HB.out.grown hg8 hzr (fun r e => by cases e; omega))⟩
      case measure => simp [intOf]; omega
    · obtain rfl : j = len := by omega
      have hzr : w.heap.size + 1 + 1 < wr.heap.size := HE.out.bm.lt
      have HF : Hid (EmpR w.heap.size wr.heap.size w.heap.size (w.heap.size + 1 + 1) (w.heap.size + 1) k j (fun x => decide (x ∈ ms)) wr) := Lib.hid (by
        have h := HE.out.wide (hi' := wr.heap.size) (by omega)
        rw [List.take_of_length_le (by rw [HL.out]; exact Nat.le_refl _)] at h
        exact h)
      go_wp2
      go_ret
      exact ⟨_, _, _, _, rfl, HF.out, HB.out⟩
end Go.Proofs.Ytepmgjohjeiopaa
