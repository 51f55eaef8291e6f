/- Contracts: pairs, one after the other. -/
import Derived.Test.YtbjgfkiaoffhlaaYd
set_option linter.unusedVariables false
set_option linter.unusedSectionVars false
namespace Go.Proofs.Ytbjgfkiaoffhlaa
open Go.RowKit Go.Shelf Rk

attribute [local go_sem] Oper.semAt_some

def encM (x : Int × Int) : Array Value := #[.int .i64 x.1, .int .i64 x.2]
/-- An iterator over pairs, whichever function, whose memory lies between lo and hi. -/
def IsSeqM (W : World) (v : Value) (lo hi : Nat) (D : List (Int × Int)) : Prop :=
  ∃ gf lb, v = .func (.func gf) #[] lb ∧ (∀ args w, (callFunc gf args).run Try.prog w = .ok (.enter gf args) w) ∧ ∀ n, 1 ≤ n → SeqP Fence.wide n Try.prog gf lb encM (Mid lo hi) D W
/-- What Pairs' iterator needs. -/
structure PrR (lo hi b2 rb : Nat) (ms : List Int) (W : World) : Prop where
  row : ∃ a cap, Boxed W b2 24 (.slice a ms.length cap) ∧ (ms.length = 0 ∨ a = some ⟨rb, 0, none⟩)
  cells : ms.length = 0 ∨ ∃ cur, W.heap[rb]? = some (.cells cur 3 (0, 0)) ∧ ∀ i, i < ms.length → cur[i]? = some (.int .i64 (ms.getD i 0))
  l2 : lo ≤ b2 ∧ b2 < hi
  l3 : ms.length = 0 ∨ (lo ≤ rb ∧ rb < hi)
  small : ms.length ≤ 100000
theorem PrR.mid {lo hi b2 rb : Nat} {ms : List Int} {W W' : World} (h : PrR lo hi b2 rb ms W) (hm : Mid lo hi W W') : PrR lo hi b2 rb ms W' := by
  obtain ⟨a, cap, h1, h2⟩ := h.row
  refine ⟨⟨a, cap, (hm.block _ h.l2.1 h.l2.2).trans h1, h2⟩, ?_, h.l2, h.l3, h.small⟩
  by_cases e : ms.length = 0
  · exact .inl e
  · obtain ⟨cur, h3, h4⟩ := h.cells.resolve_left e
    have h5 := h.l3.resolve_left e
    exact .inr ⟨cur, (hm.block _ h5.1 h5.2).trans h3, h4⟩
theorem PrR.cell {lo hi b2 rb : Nat} {ms : List Int} {W : World} (h : PrR lo hi b2 rb ms W) {i : Nat} (hi' : i < ms.length) : W.cell? ⟨rb, i, none⟩ = some (.int .i64 (ms.getD i 0)) := by
  obtain ⟨cur, h3, h4⟩ := h.cells.resolve_left (by omega)
  exact heap_cell h3 (h4 i hi')
theorem pairs1_in (n lo hi : Nat) (W : World) : SeqP Fence.wide n Try.prog 60 #[] encM (Mid lo hi) [] W := fun l J Jx W1 hW hJ hJx hY h0 => by
  refine callsIn_of_wp Try.func60 rfl trivial ?_ rfl
  simp only [Try.ntmps60, List.size_toArray, List.length_cons, List.length_nil, Nat.reduceAdd, Nat.reduceSub, Array.replicate_succ, Array.replicate_zero, List.push_toArray, List.append_toArray, List.nil_append, List.cons_append]
  gi_wp2
  go_end0
  exact ⟨⟨_, rfl⟩, .inl h0⟩
set_option maxRecDepth 100000 in
set_option maxHeartbeats 2000000 in
theorem pairs2_in (n : Nat) (hn : 1 ≤ n) {lo hi b2 rb : Nat} {ms : List Int} (w : World) (h : PrR lo hi b2 rb ms w) (hhi : hi ≤ w.heap.size) :
    SeqP Fence.wide n Try.prog 62 #[.pointer (some ⟨b2, 0, none⟩)] encM (Mid lo hi) (pairsL ms ms.length) w := fun l J Jx W hW hJ hJx hY h0 => by
  have hR := h.mid (Mid.of_below hW hhi)
  have HR := Lib.hid hR
  obtain ⟨a, cap, hbr, hra⟩ := hR.row
  have cr := hbr.cell
  have HRA := Lib.hid hra
  have hsm := hR.small
  obtain ⟨m, hm⟩ : ∃ m, ms.length = m := ⟨_, rfl⟩
  have HMm := Lib.hid hm
  rw [hm] at cr hsm hY ⊢
  clear h hR hW hJ hJx hbr hra hm
  refine callsIn_of_wp Try.func62 rfl trivial ?_ rfl
  simp only [Try.ntmps62, List.size_toArray, List.length_cons, List.length_nil, Nat.reduceAdd, Nat.reduceSub, Array.replicate_succ, Array.replicate_zero, List.push_toArray, List.append_toArray, List.nil_append, List.cons_append]
  gi_wp2
  gi_loopw [7] (fun i wr => ∃ j : Nat, i = .int .i64 j ∧ j ≤ m ∧ Hid (J (pairsL ms j) wr) ∧ Hid (Mid lo hi W wr)) (fun i _ => m - (intOf i).toNat)
  case atStart => exact ⟨0, rfl, Nat.zero_le _, Lib.hid h0, Lib.hid (Mid.refl _ _ _)⟩
  case round =>
    obtain ⟨j, rfl, hj, hJs, hM⟩ := hrel
    clear cr
    by_cases hlt : j < m
    · have hRr := HR.out.mid hM.out
      have cj := hRr.cell (i := j) (by rw [HMm.out]; exact hlt)
      obtain rfl : a = some ⟨rb, 0, none⟩ := HRA.out.resolve_left (by rw [HMm.out]; omega)
      have HS : Hid (pairsL ms (j + 1) = pairsL ms j ++ if (j : Int) < ms.getD j 0 then [((j : Int), ms.getD j 0)] else []) := Lib.hid rfl
      generalize ms.getD j 0 = y at *
      clear hRr
      by_cases hyp : (j : Int) < y
      · have HE : Hid (pairsL ms (j + 1) = pairsL ms j ++ [((j : Int), y)]) := Lib.hid (by rw [HS.out, if_pos hyp])
        have hp : pairsL ms j ++ [((j : Int), y)] <+: pairsL ms m := by rw [← HE.out]; exact pairsL_le ms (by omega)
        obtain ⟨fn, tmps, assign, body, hy, hR⟩ := hY (pairsL ms j) ((j : Int), y) wr hJs.out hp
        dsimp only [encM] at hy
        have HR1 := Lib.hid hR
        have hd : decide ((j : Int) < y) = true := by simpa using hyp
        clear hY hR hp hyp HS
        gi_wp2
        refine RoundIn.mono HR1.out ?_
        rintro e W3 (⟨rfl, hJ3, hk3⟩ | ⟨rfl, hJx3⟩)
        · have HJ3 := Lib.hid hJ3
          have HK3 := Lib.hid (hM.out.trans hk3)
          clear hJ3 hk3
          gi_wp2
          go_roundw
          case rel => exact ⟨j + 1, by go_num, by omega, by rw [HE.out]; exact HJ3, HK3⟩
          case measure => simp [intOf]; omega
        · have HJX := Lib.hid hJx3
          clear hJx3
          gi_wp2
          refine bodyPost_ret (results_none rfl _ _ _) rfl ?_
          exact ⟨⟨_, rfl⟩, .inr ⟨pairsL ms j ++ [((j : Int), y)], by rw [← HE.out]; exact pairsL_le ms (by omega), HJX.out⟩⟩
      · have HE : Hid (pairsL ms (j + 1) = pairsL ms j) := Lib.hid (by rw [HS.out, if_neg hyp, List.append_nil])
        have hd : decide ((j : Int) < y) = false := by simpa using hyp
        clear hY hyp HS
        gi_wp2
        refine ⟨fun _ h => (by cases h), ?_⟩
        gi_wp2
        go_roundw
        case rel => exact ⟨j + 1, by go_num, by omega, by rw [HE.out]; exact hJs, hM⟩
        case measure => simp [intOf]; omega
    · obtain rfl : j = m := by omega
      gi_wp2
      go_end0
      exact ⟨⟨_, rfl⟩, .inl hJs.out⟩
/-- The pairs that Pairs hands out. -/
def pairsD (ms : List Int) : List (Int × Int) := if mateR ms = true then pairsL ms ms.length else []
theorem pairsD_length (ms : List Int) : (pairsD ms).length ≤ ms.length := by
  unfold pairsD
  split
  · exact pairsL_length _ _
  · exact Nat.zero_le _
/-- What the call leaves. -/
def PairsPost (ms : List Int) (w : World) (e : Ending) (w' : World) : Prop :=
  ∃ v, e = .returned v ∧ IsSeqM w' v w.heap.size w'.heap.size (pairsD ms) ∧ Below w.heap.size w w'
set_option maxRecDepth 100000 in
set_option maxHeartbeats 2000000 in
theorem mpairs_any {w : World} {a : Option Addr} {b off len cap : Nat} {ms : List Int} (hm : IntsAt .i64 w.heap.size w a b off len ms) (h0 : a = none → len = 0 ∧ cap = 0) (hlen : len ≤ 60000) :
    Calls Try.prog 40 #[.slice a len cap] w (PairsPost ms w) := by
  have HRt := Lib.hid (mright_any (cap := cap) hm)
  have HC := Lib.hid (cloneI_any (cap := cap) hm h0 (by omega))
  have HL := Lib.hid hm.length
  have hlen2 := hlen
  clear hm h0
  cases hr : mateR ms with
  | false =>
    rw [hr] at HRt
    have HE : Hid (pairsD ms = []) := Lib.hid (if_neg (by rw [hr]; decide))
    clear hr
    go_enter Try.func40, Try.ntmps40
    go_wp2_with fail
    refine HRt.out.mono ?_
    rintro e w1 ⟨rfl, rfl⟩
    go_wp2
    go_ret
    exact ⟨_, rfl, ⟨_, _, rfl, enters_of Try.func60 (by kernel_rfl) rfl, fun n _ => by rw [HE.out]; exact pairs1_in n _ _ _⟩, Below.refl _ _⟩
  | true =>
    rw [hr] at HRt
    have HE : Hid (pairsD ms = pairsL ms ms.length) := Lib.hid (if_pos hr)
    clear hr
    go_enter Try.func40, Try.ntmps40
    go_wp2_with fail
    refine HRt.out.mono ?_
    rintro e w0 ⟨rfl, rfl⟩
    go_wp2_with fail
    refine HC.out.mono ?_
    rintro e w1 ⟨a1, b1, cap1, rfl, hc1, hI1, hb1, hB1, hn1, ht1⟩
    have hz := hB1.size
    have HF : Hid (PrR w.heap.size (w1.alloc (.cells #[.slice a1 ms.length cap1] 24)).heap.size w1.heap.size b1 ms (w1.alloc (.cells #[.slice a1 ms.length cap1] 24))) := Lib.hid (by
      refine ⟨⟨a1, cap1, Boxed.new w1 _ _, hI1.addr⟩, ?_, ⟨by omega, by simp⟩, ?_, by rw [HL.out]; omega⟩
      · by_cases e : ms.length = 0
        · exact .inl e
        · obtain ⟨cur, h1⟩ := ht1.resolve_left e
          refine .inr ⟨cur, heap_alloc h1 _, fun i hi => ?_⟩
          have := hI1.cell i hi
          rw [Nat.zero_add] at this
          simpa [World.cell?, h1] using this
      · by_cases e : ms.length = 0
        · exact .inl e
        · have h2 := hb1.resolve_left e
          obtain ⟨cur, h1⟩ := ht1.resolve_left e
          have := heap_lt h1
          exact .inr ⟨by omega, by simp; omega⟩)
    have HBB := Lib.hid (hB1.alloc hB1.size (.cells #[.slice a1 ms.length cap1] 24))
    clear HC hc1 hI1 hb1 hB1 hn1 ht1 hz
    go_wp2
    go_ret
    exact ⟨_, rfl, ⟨_, _, rfl, enters_of Try.func62 (by kernel_rfl) rfl, fun n hn => by rw [HE.out]; exact pairs2_in n hn _ HF.out (Nat.le_refl _)⟩, HBB.out⟩
end Go.Proofs.Ytbjgfkiaoffhlaa
