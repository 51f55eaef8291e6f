/- The walk of HeapOrders: what comes out rises, equal ones as they stood; again the same; backwards turned round. -/
import Derived.Test.YtfghcjhfbbdanaaMo
import Derived.IntWalk
set_option linter.unusedVariables false
namespace Go.Proofs.Ytfghcjhfbbdanaa
open Go.RowKit

theorem wf_small (m : Nat) (h : m ≤ 1000) : (Lit.int .i64 (m : Int)).wf = true := by
  have h1 : IntKind.i64.min = -9223372036854775808 := by decide
  have h2 : IntKind.i64.max = 9223372036854775807 := by decide
  show (decide (IntKind.i64.min ≤ (m : Int)) && decide ((m : Int) ≤ IntKind.i64.max)) = true
  rw [h1, h2, Bool.and_eq_true, decide_eq_true_eq, decide_eq_true_eq]
  omega
theorem neqU (a b : Int) (V : World) : (binOp BinOp.neq 26 (.agg #[.int .i64 a, .int .i64 b]) (.agg #[.int .i64 a, .int .i64 b])).run Try.prog V = .ok (.bool false) V := by
  have h := neq_item (a, b) (a, b) V
  simpa using h

/-- A look-up in a map, in a region that only reads. -/
theorem wpQuiet_look {P : Program} {ops : Array Oper} {C : World → Prop} {Q : Act → Prop} {a : Act} {o : Oper} {rest : List Oper} (hw : Region.wanted o (yielded ops a.tmps) = true) (t : TypeId) (m x : Operand) (hop : o.op = Op.lookup t m x false)
    (mv xv v : Value) (hm : a.eval m = mv) (hx : a.eval x = xv) (hrun : ∀ w, C w → (Instr.lookup t mv xv false).run P w = .ok v w) (h : wpQuiet P ops C Q rest (a.put o.dst v)) : wpQuiet P ops C Q (o :: rest) a :=
  wpQuiet_step fun K hK => by
    rw [if_pos hw]
    refine ⟨v, fun w hC => ?_, hK _ h⟩
    unfold Oper.quietAt
    simp [execOp, hop, hm, hx, hrun w hC, Result.andThen, Oper.quietUpon]

set_option maxRecDepth 100000 in
set_option maxHeartbeats 8000000 in
theorem walk_HeapOrders (a0 : Option Addr) (len0 cap0 : Nat) (z0 : List Int) (w : World) (w0 : IsRow .i64 w a0 len0 cap0 z0) :
    Calls Try.prog 3 #[.slice a0 len0 cap0] w fun e w' => e = .returned (.bool true) ∧ Below w.heap.size w w' := by
  obtain ⟨b, off, hi⟩ := w0.ints
  have hm := hi.small
  unfold maxLen at hm
  have H1 := Lib.hid hi
  clear hi w0
  generalize z0.take len0 = z at *
  by_cases h200 : 200 < len0
  · go_enter Try.func3, Try.ntmps3
    go_wp2_with fail
    refine (halive_any _).mono ?_
    rintro e w2 ⟨rfl, hB2⟩
    have HB2 := Lib.hid hB2
    clear hB2
    go_wp2
    go_ret
    exact ⟨rfl, HB2.out⟩
  obtain ⟨i0, hi, hz0, hz1, hz2⟩ := info_parts Try.infoItem
  have HIi := Lib.hid hi
  have HZ0 := Lib.hid hz0
  have HZ1 := Lib.hid hz1
  have HZ2 := Lib.hid hz2
  clear hi hz0 hz1 hz2
  go_enter Try.func3, Try.ntmps3
  go_wp2_with fail
  refine (halive_any _).mono ?_
  rintro e w2 ⟨rfl, hB2⟩
  have HB2 := Lib.hid hB2
  have hz2 := hB2.size
  clear hB2
  go_wp2
  go_loopw [3, 20] (fun v3 i wr => ∃ k : Nat, i = .int .i64 k ∧ k ≤ len0 ∧ Hid (Gath wr w.heap.size 26 2 v3 k (its (tg z k))) ∧ Hid (Below w.heap.size w wr))
    (fun _ i _ => len0 - (intOf i).toNat)
  case atStart =>
    exact ⟨0, rfl, Nat.zero_le _, Lib.hid (.inl ⟨rfl, rfl, _, rfl⟩), Lib.hid (HB2.out.alloc hz2 _)⟩
  case round =>
    obtain ⟨k, rfl, hk, hG3, hB⟩ := hrel
    obtain ⟨a3, cap3, rfl⟩ := hG3.out.slice
    have hbz := hB.out.size
    by_cases hlt : k < len0
    · have hI := H1.out.kept hB.out (Nat.le_refl _)
      have ha : a0 = some ⟨b, off, none⟩ := hI.addr.resolve_left (by omega)
      subst ha
      have c0 := hI.cell k hlt
      obtain ⟨x, hx⟩ : ∃ x, z.getD k 0 = x := ⟨_, rfl⟩
      rw [hx] at c0
      have HX : Hid (its (tg z (k + 1)) = its (tg z k) ++ its [(x, (k : Int))]) := Lib.hid (by rw [← hx]; show its (tg z k ++ [(z.getD k 0, (k : Int))]) = _; rw [its_append])
      clear hI hx
      refine Hid.out (Lib.hid ?_)
      go_wp2_with (at_builtin; refine wpList_append_gathW _ rfl (.tmp 25) (.tmp 29) 24 rfl w.heap.size 26 i0 (.agg #[.int .i64 0, .int .i64 0]) 2 16 Try.underlying24 HIi.out HZ0.out HZ1.out HZ2.out rfl (by decide) (.slice a3 k cap3) k (its (tg z k)) rfl (hG3.out.kept ((Below.refl _ _).alloc (Nat.le_refl _) _)) ⟨wr.heap.size, 0, none⟩ 1 1 (its [(x, (k : Int))]) rfl rfl (cell_two _ _ _) (its_one _) (by decide) (by unfold maxLen; omega) (by omega) (by simp; omega) ?_; intro g5 cp5 w5 r5 hown hgrow hr hg; have H5 := Lib.hid (And.intro hown (And.intro hgrow hr)); clear hown hgrow hr hg)
      obtain ⟨hown, hgrow, hr⟩ := H5.out
      have HBl := Lib.hid ((hB.out.alloc hbz (.cells #[.int .i64 x, .int .i64 (k : Int)] 26)).grown hgrow (by simp; omega) (fun i e => by obtain ⟨e1, e2⟩ := hr i e; exact (owns_block e2 e1).1))
      have HOW := Lib.hid hown
      clear hown hgrow hr H5
      go_roundw
      case rel => exact ⟨k + 1, by go_num, by omega, Lib.hid (by rw [HX.out]; exact .inr HOW.out), HBl⟩
      case measure => simp [intOf]; omega
    · obtain rfl : k = len0 := by omega
      obtain ⟨b3, hI3, hc3⟩ := Gath.sits hG3.out (tg_length z k)
      have HSo := Lib.hid (sort_any ordLess hI3 hc3 (by omega))
      clear hI3
      go_wp2_with fail
      refine HSo.out.mono ?_
      rintro e w5 ⟨v6, rfl, hg6, hb5⟩
      rw [tg_length] at hg6
      obtain ⟨a6, cap6, rfl⟩ := hg6.slice
      have hz5 := hb5.size
      have G3 := Lib.hid (hG3.out.kept hb5)
      have G6 := Lib.hid hg6
      have B5 := Lib.hid (hB.out.trans (hb5.mono hbz))
      clear hg6 hb5 HSo hG3 hB
      have hmm := @run_makeMap Try.prog
      go_wp2
      go_loopw [42] (fun i wr => ∃ j : Nat, i = .int .i64 j ∧ j ≤ k ∧ Hid (Below w5.heap.size w5 wr) ∧ Hid (MapB wr Try.prog 3 4 w5.heap.size j (fun y => decide (y ∈ ((Hm.srt kk (tg z k)).take j).map Prod.snd))))
        (fun i _ => k - (intOf i).toNat)
      case atStart => exact ⟨0, rfl, Nat.zero_le _, Lib.hid ((Below.refl _ _).alloc (Nat.le_refl _) _), Lib.hid ((MapB.made w5 Try.prog 3 4).congr (fun x => by simp))⟩
      case round =>
        obtain ⟨j, rfl, hj, hB, hM⟩ := hrel
        have hbj := hB.out.size
        by_cases hjk : j < k
        · obtain ⟨m, hmk, hSj, hlex⟩ := srt_facts z k j hjk
          have hun := unseen (Hm.srt kk (tg z k)) j (by rw [Hm.srt_length, tg_length]; omega) (m : Int) (z.getD m 0) hlex (fun i hi => by have h := srt_tags z k i j hi hjk; rw [hSj] at h; exact h)
          have hnx := seen_next (Hm.srt kk (tg z k)) j (by rw [Hm.srt_length, tg_length]; omega)
          rw [hSj] at hnx
          obtain ⟨b6, hI6, hc6⟩ := Gath.sits (G6.out.kept hB.out) (by rw [Hm.srt_length, tg_length])
          obtain ⟨b3, hI3, hc3⟩ := Gath.sits (G3.out.kept hB.out) (tg_length z k)
          obtain rfl : a6 = some ⟨b6, 0, none⟩ := hI6.addr.resolve_left (by omega)
          obtain rfl : a3 = some ⟨b3, 0, none⟩ := hI3.addr.resolve_left (by omega)
          have hal0 : ∀ o : Obj, Below wr.heap.size wr (wr.alloc o) := fun o => (Below.refl _ _).alloc (Nat.le_refl _) o
          obtain ⟨q1, q2⟩ := hI6.cell j hjk
          have s12 := fun o => (hI6.kept (hal0 o) (Nat.le_refl _)).cell (j - 1) (by omega)
          rw [hSj] at q1 q2
          have r12 := fun o => (hI3.kept (hal0 o) (Nat.le_refl _)).cell m hmk
          rw [tg_at z k m hmk] at r12
          obtain ⟨xk, hxk⟩ : ∃ xk, z.getD m 0 = xk := ⟨_, rfl⟩
          rw [hxk] at q1 q2 r12 hnx hlex
          simp only at q1 q2 r12
          have hwf : (Lit.int .i64 (m : Int)).wf = true := wf_small m (by omega)
          have hlk : ∀ n : Nat, (Instr.lookup 29 (.map (some w5.heap.size)) (.int .i64 (m : Int)) false).run Try.prog ((wr.alloc (.cells #[.int .i64 xk, .int .i64 (m : Int)] 26)).drewN n) = .ok (.bool false) ((wr.alloc (.cells #[.int .i64 xk, .int .i64 (m : Int)] 26)).drewN n) := by
            intro n
            have h := (hM.out.kept (World.grownBy_alloc wr (.cells #[.int .i64 xk, .int .i64 (m : Int)] 26) none) (by simp)).kept (w' := (wr.alloc (.cells #[.int .i64 xk, .int .i64 (m : Int)] 26)).drewN n) (row := none) ⟨rfl, rfl, rfl, Nat.le_refl _, fun _ _ _ => rfl⟩ (by simp)
            have h' := h.look (t := 29) Try.underlying29 Try.underlying3 Try.underlying4 (by rfl) hwf
            rw [hun] at h'
            exact h'
          have HLK := Lib.hid hlk
          obtain ⟨r1, r2⟩ := r12 (.cells #[.int .i64 xk, .int .i64 (m : Int)] 26)
          have s34 := s12 (.cells #[.int .i64 xk, .int .i64 (m : Int)] 26)
          have hg := Try.guardItem
          have hneq := neqU xk m
          have hd1 : decide ((m : Int) < 0) = false := by simp
          have hd2 : decide ((k : Int) ≤ (m : Int)) = false := by simp; omega
          have hd2' : decide (k ≤ m) = false := by simp; omega
          have hmi : (m : Int) < (k : Int) := by omega
          have HM := Lib.hid hM.out
          have HNX := Lib.hid hnx
          have HB := Lib.hid hB.out
          clear s12 r12 hI6 hI3 hlk hun hnx hM hB hxk hal0
          by_cases hj0 : j = 0
          · subst hj0
            clear s34 hlex
            go_wp2_with fail
            refine wp_region_quiet_lit (by kernel_rfl) (by kernel_rfl) ?_
            iterate 23 (go_big_quiet_step (fail))
            refine wpQuiet_look (by kernel_rfl) 29 (.tmp 67) (.tmp 69) rfl _ _ (.bool false) rfl rfl (fun w' hw => by obtain ⟨n, rfl⟩ := hw; exact HLK.out n) ?_
            simp only [Act.put, List.setIfInBounds_toArray, List.set_cons_zero, List.set_cons_succ]
            repeat (go_big_quiet_step (fail))
            refine wpQuiet_nil ?_
            intro _ hw'
            obtain ⟨nq, hw''⟩ := hw'
            subst hw''
            have b7 : Below wr.heap.size wr ((wr.alloc (.cells #[.int .i64 xk, .int .i64 (m : Int)] 26)).drewN nq) := ((Below.refl _ _).alloc (Nat.le_refl _) _).trans ⟨rfl, rfl, rfl, Nat.le_refl _, fun _ _ => rfl⟩
            have x7 : ((wr.alloc (.cells #[.int .i64 xk, .int .i64 (m : Int)] 26)).drewN nq).heap[wr.heap.size]? = some (.cells #[.int .i64 xk, .int .i64 (m : Int)] 26 (0, 0)) := heap_new (w := wr) _ rfl
            have m7 := HM.out.kept (grown_below b7 none) (by simp)
            revert b7 x7 m7
            generalize (wr.alloc (.cells #[.int .i64 xk, .int .i64 (m : Int)] 26)).drewN nq = w7
            intro b7 x7 m7
            clear q1 q2 r1 r2
            obtain ⟨q1, q2, _, _⟩ := pair_cells x7
            have B7 := Lib.hid (HB.out.trans (b7.mono hbj))
            have M7 := Lib.hid m7
            have hbk : w5.heap.size ≤ wr.heap.size := hbj
            clear b7 x7 m7 HLK hneq hg
            go_wp2_with (at_mapUpdate; refine wpList_mapUpdate_B rfl _ _ _ 29 rfl 3 4 Try.underlying29 Try.underlying3 Try.underlying4 w5.heap.size 0 _ rfl M7.out (by unfold maxLen; omega) (m : Int) true rfl rfl hwf ?_; intro w8 hM8 hg8; have H8 := Lib.hid (And.intro hM8 hg8); clear hM8 hg8)
            go_roundw
            case rel =>
              obtain ⟨hM8, hg8⟩ := H8.out
              exact ⟨0 + 1, by go_num, by omega, Lib.hid (B7.out.grown hg8 (B7.out.size) (fun r e => by cases e; exact Nat.le_refl _)), Lib.hid (hM8.congr HNX.out)⟩
            case measure => simp [intOf]; omega
          · obtain ⟨p1, hp1⟩ : ∃ p1, ((Hm.srt kk (tg z k)).getD (j - 1) default).1 = p1 := ⟨_, rfl⟩
            obtain ⟨p2, hp2⟩ : ∃ p2, ((Hm.srt kk (tg z k)).getD (j - 1) default).2 = p2 := ⟨_, rfl⟩
            have hlx := hlex (j - 1) (by omega)
            rw [hp1, hp2] at hlx s34
            obtain ⟨s3, s4⟩ := s34
            have hjp : decide ((0 : Int) < (j : Int)) = true := by simp; omega
            have hjn : decide (0 < j) = true := by simp; omega
            have hwj : IntKind.i64.wrap ((j : Int) - 1) = (j : Int) - 1 := IntWalk.i64_in _ (by omega)
            have hj1 : (0 : Int) ≤ (j : Int) - 1 := by omega
            have hj2 : (j : Int) - 1 < (k : Int) := by omega
            have hj3 : ((j : Int) - 1).toNat = j - 1 := by omega
            clear hlex hp1 hp2
            rcases hlx with hl1 | ⟨hl1, hl2⟩
            · have e1 : decide (xk < p1) = false := by simp; omega
              have e2 : (p1 == xk) = false := by simp; omega
              clear hl1
              go_wp2_with fail
              refine wp_region_quiet_lit (by kernel_rfl) (by kernel_rfl) ?_
              iterate 23 (go_big_quiet_step (fail))
              refine wpQuiet_look (by kernel_rfl) 29 (.tmp 67) (.tmp 69) rfl _ _ (.bool false) rfl rfl (fun w' hw => by obtain ⟨n, rfl⟩ := hw; exact HLK.out n) ?_
              simp only [Act.put, List.setIfInBounds_toArray, List.set_cons_zero, List.set_cons_succ]
              repeat (go_big_quiet_step (fail))
              refine wpQuiet_nil ?_
              intro _ hw'
              obtain ⟨nq, hw''⟩ := hw'
              subst hw''
              have b7 : Below wr.heap.size wr ((wr.alloc (.cells #[.int .i64 xk, .int .i64 (m : Int)] 26)).drewN nq) := ((Below.refl _ _).alloc (Nat.le_refl _) _).trans ⟨rfl, rfl, rfl, Nat.le_refl _, fun _ _ => rfl⟩
              have x7 : ((wr.alloc (.cells #[.int .i64 xk, .int .i64 (m : Int)] 26)).drewN nq).heap[wr.heap.size]? = some (.cells #[.int .i64 xk, .int .i64 (m : Int)] 26 (0, 0)) := heap_new (w := wr) _ rfl
              have m7 := HM.out.kept (grown_below b7 none) (by simp)
              revert b7 x7 m7
              generalize (wr.alloc (.cells #[.int .i64 xk, .int .i64 (m : Int)] 26)).drewN nq = w7
              intro b7 x7 m7
              clear q1 q2 r1 r2
              obtain ⟨q1, q2, _, _⟩ := pair_cells x7
              have B7 := Lib.hid (HB.out.trans (b7.mono hbj))
              have M7 := Lib.hid m7
              have hbk : w5.heap.size ≤ wr.heap.size := hbj
              clear b7 x7 m7 HLK hneq hg
              go_wp2_with (at_mapUpdate; refine wpList_mapUpdate_B rfl _ _ _ 29 rfl 3 4 Try.underlying29 Try.underlying3 Try.underlying4 w5.heap.size j _ rfl M7.out (by unfold maxLen; omega) (m : Int) true rfl rfl hwf ?_; intro w8 hM8 hg8; have H8 := Lib.hid (And.intro hM8 hg8); clear hM8 hg8)
              go_roundw
              case rel =>
                obtain ⟨hM8, hg8⟩ := H8.out
                exact ⟨j + 1, by go_num, by omega, Lib.hid (B7.out.grown hg8 (B7.out.size) (fun r e => by cases e; exact Nat.le_refl _)), Lib.hid (hM8.congr HNX.out)⟩
              case measure => simp [intOf]; omega
            · have hl1' := hl1.symm
              subst hl1'
              clear hl1
              have e1 : decide (xk < xk) = false := by simp
              have e2 : (xk == xk) = true := by simp
              have e3 : decide ((m : Int) < p2) = false := by simp; omega
              clear hl2
              go_wp2_with fail
              refine wp_region_quiet_lit (by kernel_rfl) (by kernel_rfl) ?_
              iterate 23 (go_big_quiet_step (fail))
              refine wpQuiet_look (by kernel_rfl) 29 (.tmp 67) (.tmp 69) rfl _ _ (.bool false) rfl rfl (fun w' hw => by obtain ⟨n, rfl⟩ := hw; exact HLK.out n) ?_
              simp only [Act.put, List.setIfInBounds_toArray, List.set_cons_zero, List.set_cons_succ]
              repeat (go_big_quiet_step (fail))
              refine wpQuiet_nil ?_
              intro _ hw'
              obtain ⟨nq, hw''⟩ := hw'
              subst hw''
              have b7 : Below wr.heap.size wr ((wr.alloc (.cells #[.int .i64 xk, .int .i64 (m : Int)] 26)).drewN nq) := ((Below.refl _ _).alloc (Nat.le_refl _) _).trans ⟨rfl, rfl, rfl, Nat.le_refl _, fun _ _ => rfl⟩
              have x7 : ((wr.alloc (.cells #[.int .i64 xk, .int .i64 (m : Int)] 26)).drewN nq).heap[wr.heap.size]? = some (.cells #[.int .i64 xk, .int .i64 (m : Int)] 26 (0, 0)) := heap_new (w := wr) _ rfl
              have m7 := HM.out.kept (grown_below b7 none) (by simp)
              revert b7 x7 m7
              generalize (wr.alloc (.cells #[.int .i64 xk, .int .i64 (m : Int)] 26)).drewN nq = w7
              intro b7 x7 m7
              clear q1 q2 r1 r2
              obtain ⟨q1, q2, _, _⟩ := pair_cells x7
              have B7 := Lib.hid (HB.out.trans (b7.mono hbj))
              have M7 := Lib.hid m7
              have hbk : w5.heap.size ≤ wr.heap.size := hbj
              clear b7 x7 m7 HLK hneq hg
              go_wp2_with (at_mapUpdate; refine wpList_mapUpdate_B rfl _ _ _ 29 rfl 3 4 Try.underlying29 Try.underlying3 Try.underlying4 w5.heap.size j _ rfl M7.out (by unfold maxLen; omega) (m : Int) true rfl rfl hwf ?_; intro w8 hM8 hg8; have H8 := Lib.hid (And.intro hM8 hg8); clear hM8 hg8)
              go_roundw
              case rel =>
                obtain ⟨hM8, hg8⟩ := H8.out
                exact ⟨j + 1, by go_num, by omega, Lib.hid (B7.out.grown hg8 (B7.out.size) (fun r e => by cases e; exact Nat.le_refl _)), Lib.hid (hM8.congr HNX.out)⟩
              case measure => simp [intOf]; omega
        · obtain rfl : j = k := by omega
          have HBm := Lib.hid hB.out
          have G3m := Lib.hid (G3.out.kept hB.out)
          have G6m := Lib.hid (G6.out.kept hB.out)
          obtain ⟨b3, hI3, hc3⟩ := Gath.sits G3m.out (tg_length z j)
          have HSo := Lib.hid (sort_any ordMore hI3 hc3 (by omega))
          clear hI3 hM hB G3 G6
          go_wp2_with fail
          refine HSo.out.mono ?_
          rintro e w7 ⟨v10, rfl, hg10, hb7⟩
          rw [tg_length] at hg10
          obtain ⟨a10, cap10, rfl⟩ := hg10.slice
          have hz7 := hb7.size
          have G10 := Lib.hid hg10
          have G6n := Lib.hid (G6m.out.kept hb7)
          have B7 := Lib.hid (B5.out.trans ((HBm.out.trans (hb7.mono hbj)).mono (by have := B5.out.size; exact this)))
          have hz5w := B5.out.size
          clear hg10 hb7 HSo G3m G6m
          go_wp2
          go_loopw [117] (fun i wr => ∃ q : Nat, i = .int .i64 q ∧ q ≤ j ∧ Hid (Below w7.heap.size w7 wr))
            (fun i _ => j - (intOf i).toNat)
          case atStart => exact ⟨0, rfl, Nat.zero_le _, Lib.hid (Below.refl _ _)⟩
          case round =>
            obtain ⟨q, rfl, hq, hB⟩ := hrel
            have hbq := hB.out.size
            by_cases hqj : q < j
            · obtain ⟨b10, hI10, hc10⟩ := Gath.sits (G10.out.kept hB.out) (by rw [Hm.srt_length, tg_length])
              obtain ⟨b6, hI6, hc6⟩ := Gath.sits (G6n.out.kept hB.out) (by rw [Hm.srt_length, tg_length])
              obtain rfl : a10 = some ⟨b10, 0, none⟩ := hI10.addr.resolve_left (by omega)
              obtain rfl : a6 = some ⟨b6, 0, none⟩ := hI6.addr.resolve_left (by omega)
              obtain ⟨c1, _⟩ := hI10.cell q hqj
              obtain ⟨d1, _⟩ := hI6.cell (j - 1 - q) (by omega)
              have hbk := back_keys z j q hqj
              rw [hbk] at c1
              generalize ((Hm.srt kk (tg z j)).getD (j - 1 - q) default).1 = xq at *
              have hw1 : IntKind.i64.wrap ((j : Int) - 1) = (j : Int) - 1 := IntWalk.i64_in _ (by omega)
              have hw2 : IntKind.i64.wrap ((j : Int) - 1 - (q : Int)) = (j : Int) - 1 - (q : Int) := IntWalk.i64_in _ (by omega)
              have hq0 : (0 : Int) ≤ (j : Int) - 1 - (q : Int) := by omega
              have hq1 : (j : Int) - 1 - (q : Int) < (j : Int) := by omega
              have hq2 : ((j : Int) - 1 - (q : Int)).toNat = j - 1 - q := by omega
              have hq3 : (q : Int) < (j : Int) := by omega
              have hxx : (xq != xq) = false := by simp
              clear hI10 hI6 hbk
              go_wp2
              go_quiet (fail)
              have hBn := Lib.hid (hB.out.trans ((below_of_drewN wr nq).mono hbq))
              revert hBn
              generalize wr.drewN nq = w8
              intro hBn
              clear hw1 hw2 hq2
              go_wp2
              go_roundw
              case rel => exact ⟨q + 1, by go_num, by omega, hBn⟩
              case measure => simp [intOf]; omega
            · obtain rfl : q = j := by omega
              obtain ⟨b6, hI6, hc6⟩ := Gath.sits (G6n.out.kept hB.out) (by rw [Hm.srt_length, tg_length])
              have HSo := Lib.hid (sort_any ordLess hI6 hc6 (by omega))
              have HI6 := Lib.hid hI6
              clear hI6
              go_wp2_with fail
              refine HSo.out.mono ?_
              rintro e w9 ⟨v11, rfl, hg11, hb9⟩
              rw [srt_again, Hm.srt_length, tg_length] at hg11
              obtain ⟨a11, cap11, rfl⟩ := hg11.slice
              obtain ⟨b11, hI11, hc11⟩ := Gath.sits hg11 (by rw [Hm.srt_length, tg_length])
              have HB9 := Lib.hid (B7.out.trans ((hB.out.trans (hb9.mono hbq)).mono B7.out.size))
              have hSm := same_any (cap := cap11) (cap' := cap6) hI11 ((HI6.out.kept hb9 (Nat.le_refl _)).mono hb9.size) (by omega) (by omega) (Nat.le_refl _)
              simp only [decide_true] at hSm
              have HSm := Lib.hid hSm
              clear hg11 hI11 hb9 hSm HSo
              go_wp2_with fail
              refine HSm.out.mono ?_
              rintro e w10 ⟨rfl, hb10⟩
              have HB10 := Lib.hid (HB9.out.trans (hb10.mono HB9.out.size))
              clear hb10
              go_wp2
              go_ret
              exact ⟨rfl, HB10.out⟩
end Go.Proofs.Ytfghcjhfbbdanaa
