/- The reference's layer 9, with what it needs (Mu, Zf, Zg, Zma, Zp joined). -/
import Derived.Maps.OwnIn
import Derived.Maps.OwnSet
import Derived.Maps.Views
import Derived.Test.YtjpgkocffceeoaaZa
import Derived.Test.YtjpgkocffceeoaaFi
import Derived.Laws.EntriesVeiled
import Derived.Test.YtjpgkocffceeoaaCol
import Derived.Test.YtjpgkocffceeoaaZl
import Derived.Test.YtjpgkocffceeoaaZpa
import Derived.Test.YtjpgkocffceeoaaGbr
set_option linter.unusedVariables false
set_option linter.unusedSectionVars false
set_option linter.unusedSimpArgs false
namespace Go.Proofs.Ytjpgkocffceeoaa
open Go.Maps

/-- Block b is a set that has what g tells. -/
def SetI (w : World) (P : Program) (k : TypeId) (b n : Nat) (g : Int → Bool) : Prop :=
  ∃ D : DataW Unit, w.ownsMap P k unitElem b n D ∧ ∀ x : Int, Maps.has D (.int .i64 x) = g x
section
variable {w w' : World} {P : Program} {t k e : TypeId} {b n : Nat} {g : Int → Bool} {row : Option Nat}
theorem SetI.made (w : World) (P : Program) (k : TypeId) : SetI (w.alloc (.map #[] 0)) P k w.heap.size 0 (fun _ => false) := ⟨.map [], World.ownsMap_made w P k _, fun x => rfl⟩
theorem SetI.kept (h : SetI w P k b n g) (hg : w.grownBy w' row) (hne : some b ≠ row) : SetI w' P k b n g := by
  obtain ⟨D, h1, h2⟩ := h
  exact ⟨D, h1.kept hg hne, h2⟩
theorem SetI.lt (h : SetI w P k b n g) : b < w.heap.size := by obtain ⟨D, h1, h2⟩ := h; exact h1.lt
theorem SetI.congr (h : SetI w P k b n g) {g' : Int → Bool} (hf : ∀ x, g x = g' x) : SetI w P k b n g' := by
  obtain ⟨D, h1, h2⟩ := h
  exact ⟨D, h1, fun x => by rw [h2 x, hf]⟩
theorem SetI.obj (h : SetI w P k b n g) : ∃ es cl, w.heap[b]? = some (.map es cl) := by
  obtain ⟨D, h1, h2⟩ := h
  obtain ⟨es, cl, h3, _⟩ := h1
  exact ⟨es, cl, h3⟩
theorem set_reads {D : DataW Unit} (hD : IsMap D) {x y : Int} {d : DataW Unit} : Maps.has (D.put (.int .i64 x) d) (.int .i64 y) = (decide (y = x) || Maps.has D (.int .i64 y)) := by
  by_cases h : y = x
  · subst h
    rw [has_put_same hD (show WideAt.IsKeyLit (Lit.int .i64 y) from trivial)]; simp
  · rw [has_put_other (fun e => by cases e; exact h rfl)]; simp [h]
/-- m[x] = struct{}{}, at the operation. -/
theorem wpList_mapUpdate_S {ops : Array Oper} {rest : List Oper} {o : Oper} {a : Act} {Q : Exit → Act → World → Prop} (hg : o.guard = none) (m x v : Operand) (t : TypeId) (hop : o.op = Op.mapUpdate t m x v)
    (k e : TypeId) (ht : P.underlying t = some (.map k e)) (hk : P.underlying k = some (.int .i64)) (b n : Nat) (g : Int → Bool)
    (hm : a.eval m = .map (some b)) (hown : SetI w P k b n g) (hn : n < maxLen) (xi : Int) (hx : a.eval x = .int .i64 xi) (hv : a.eval v = .agg #[]) (hxw : (Lit.int .i64 xi).wf = true)
    (hK : ∀ w', SetI w' P k b (n + 1) (fun y => decide (y = xi) || g y) → w.grownBy w' (some b) → wpList P ops Q rest (a.put o.dst undef) w') :
    wpList P ops Q (o :: rest) a w := by
  obtain ⟨D, h1, h2⟩ := hown
  refine wpList_mapUpdate_own w hg m x v t hop k e (int_keyed hk) ht unitElem b n D hm h1 hn _ _ (.int .i64 xi) hx hv (keyOf_int_mk hk hxw) (.agg []) [] unitElem_mk ?_
  intro w' h3 h4
  refine hK w' ⟨_, h3, fun y => ?_⟩ h4
  rw [set_reads h1.isMap, h2 y]
/-- _, ok := m[x], inside a fence. -/
theorem wpListIn_lookup_S {F : Fence} {nF : Nat} {ops : Array Oper} {rest : List Oper} {o : Oper} {a : Act} {Q : Exit → Act → World → Prop} (hg : o.guard = none) (m x : Operand) (t : TypeId) (hop : o.op = Op.lookup t m x true)
    (k e : TypeId) (ht : P.underlying t = some (.map k e)) (hk : P.underlying k = some (.int .i64)) (hz : (zeroValue e).run P w = .ok (.agg #[]) w) (b n : Nat) (g : Int → Bool)
    (hm : a.eval m = .map (some b)) (hown : SetI w P k b n g) (xi : Int) (hx : a.eval x = .int .i64 xi) (hxw : (Lit.int .i64 xi).wf = true)
    (hK : wpListIn F nF P ops Q rest (a.put o.dst (.tuple #[.agg #[], .bool (g xi)])) w) :
    wpListIn F nF P ops Q (o :: rest) a w := by
  obtain ⟨D, h1, h2⟩ := hown
  refine wpListIn_lookup_own_unit w hg m x t hop k e (int_keyed hk) ht hz b n D hm h1 _ (.int .i64 xi) hx (keyOf_int_mk hk hxw) ?_
  rw [h2 xi]
  exact hK
end
end Go.Proofs.Ytjpgkocffceeoaa

namespace Go.Proofs.Ytjpgkocffceeoaa
open Go.RowKit Go.Shelf Rk

attribute [local go_sem] Oper.semAt_some

/-- The numbers below k of which g tells no. -/
def emptyL (g : Int → Bool) : Nat → List Int
  | 0 => []
  | k + 1 => emptyL g k ++ if g (k : Int) = true then [] else [(k : Int)]
theorem emptyL_add (g : Int → Bool) (k j : Nat) : emptyL g k <+: emptyL g (k + j) := by
  induction j with
  | zero => exact List.prefix_refl _
  | succ j ih => exact ih.trans (List.prefix_append _ _)
theorem emptyL_le (g : Int → Bool) {k j : Nat} (h : k ≤ j) : emptyL g k <+: emptyL g j := by
  obtain ⟨d, rfl⟩ : ∃ d, j = k + d := ⟨j - k, by omega⟩
  exact emptyL_add g k d
theorem emptyL_length (g : Int → Bool) (k : Nat) : (emptyL g k).length ≤ k := by
  induction k with
  | zero => exact Nat.le_refl _
  | succ k ih => rw [emptyL, List.length_append]; split <;> simp <;> omega
theorem emptyL_congr {g h : Int → Bool} (k : Nat) (hg : ∀ x, g x = h x) : emptyL g k = emptyL h k := by
  induction k with
  | zero => rfl
  | succ k ih => rw [emptyL, emptyL, ih, hg]
theorem wf_small (m : Nat) (h : m ≤ 1000000000) : (Lit.int .i64 (m : Int)).wf = true := by
  have h1 : IntKind.i64.min = -9223372036854775808 := by decide
  have h2 : IntKind.i64.max = 9223372036854775807 := by decide
  show (decide (IntKind.i64.min ≤ (m : Int)) && decide ((m : Int) ≤ IntKind.i64.max)) = true
  rw [h1, h2, Bool.and_eq_true, decide_eq_true_eq, decide_eq_true_eq]
  omega
def enc1 (x : Int) : Array Value := #[.int .i64 x]
/-- An iterator over numbers, whichever function; what it needs lies from lo on, below hi. -/
def IsSeq1 (W : World) (v : Value) (lo hi : Nat) (D : List Int) : Prop :=
  ∃ gf lb, v = .func (.func gf) #[] lb ∧ (∀ args w, (callFunc gf args).run Try.prog w = .ok (.enter gf args) w) ∧ ∀ n, 1 ≤ n → SeqP Fence.wide n Try.prog gf lb enc1 (Mid lo hi) D W
/-- What Empty's iterator needs. -/
structure EmpR (lo hi b1 b2 mb : Nat) (k : Int) (n : Nat) (g : Int → Bool) (W : World) : Prop where
  bk : Boxed W b1 3 (.int .i64 k)
  bm : Boxed W b2 107 (.map (some mb))
  set : SetI W Try.prog 3 mb n g
  l1 : lo ≤ b1 ∧ b1 < hi
  l2 : lo ≤ b2 ∧ b2 < hi
  l3 : lo ≤ mb ∧ mb < hi
theorem EmpR.mid {lo hi b1 b2 mb : Nat} {k : Int} {n : Nat} {g : Int → Bool} {W W' : World} (h : EmpR lo hi b1 b2 mb k n g W) (hm : Mid lo hi W W') : EmpR lo hi b1 b2 mb k n g W' := by
  refine ⟨(hm.block _ h.l1.1 h.l1.2).trans h.bk, (hm.block _ h.l2.1 h.l2.2).trans h.bm, ?_, h.l1, h.l2, h.l3⟩
  obtain ⟨D, h1, h2⟩ := h.set
  refine ⟨D, ?_, h2⟩
  obtain ⟨es, cl, h3, h4⟩ := h1
  exact ⟨es, cl, (hm.block _ h.l3.1 h.l3.2).trans h3, h4⟩
set_option maxRecDepth 100000 in
set_option maxHeartbeats 2000000 in
theorem empty1_in (n : Nat) (hn : 1 ≤ n) {lo hi b1 b2 mb nn : Nat} {k : Int} {g : Int → Bool} (hk : k ≤ 1000000) (w : World) (h : EmpR lo hi b1 b2 mb k nn g w) (hhi : hi ≤ w.heap.size) :
    SeqP Fence.wide n Try.prog 65 #[.pointer (some ⟨b1, 0, none⟩), .pointer (some ⟨b2, 0, none⟩)] enc1 (Mid lo hi) (emptyL g k.toNat) w := fun l J Jx W hW hJ hJx hY h0 => by
  have hR := h.mid (Mid.of_below hW hhi)
  have hsz := hW.size
  have HR := Lib.hid hR
  have ck := hR.bk.cell
  have HJ := Lib.hid hJ
  clear h hR hW hJ hJx
  refine callsIn_of_wp Try.func65 rfl trivial ?_ rfl
  simp only [Try.ntmps65, List.size_toArray, List.length_cons, List.length_nil, Nat.reduceAdd, Nat.reduceSub, Array.replicate_succ, Array.replicate_zero, List.push_toArray, List.append_toArray, List.nil_append, List.cons_append]
  gi_wp2
  gi_loopw [8] (fun i wr => ∃ j : Nat, i = .int .i64 j ∧ (j = 0 ∨ (j : Int) ≤ k) ∧ Hid (J (emptyL g j) wr) ∧ Hid (Mid lo hi W wr)) (fun i _ => k.toNat - (intOf i).toNat)
  case atStart => exact ⟨0, rfl, .inl rfl, Lib.hid h0, Lib.hid (Mid.refl _ _ _)⟩
  case round =>
    obtain ⟨j, rfl, hj, hJs, hM⟩ := hrel
    clear ck
    have hRr := HR.out.mid hM.out
    have cm := hRr.bm.cell
    by_cases hlt : (j : Int) < k
    · have hzr := hM.out.size
      have hal : Mid lo hi W (wr.alloc (.cells #[] 108)) := hM.out.trans (Mid.of_below ((Below.refl wr.heap.size wr).alloc (Nat.le_refl _) _) (by omega))
      have HS := Lib.hid hRr.set
      have hwf : (Lit.int .i64 (j : Int)).wf = true := wf_small j (by omega)
      clear hRr
      have hjk : j < k.toNat := by omega
      cases hgj : g (j : Int) with
      | true =>
        have HE : Hid (emptyL g (j + 1) = emptyL g j) := Lib.hid (by rw [emptyL, if_pos hgj, List.append_nil])
        have HJ1 := Lib.hid (HJ.out _ _ _ none hJs.out (World.grownBy_alloc wr (.cells #[] 108) none) (fun r e => by cases e))
        have HM1 := Lib.hid hal
        clear hal hY
        gi_wp2_with (gi_at_lookup; refine wpListIn_lookup_S rfl _ _ 107 rfl 3 108 Try.underlying107 Try.underlying3 (by rfl) mb nn g rfl HS.out (j : Int) rfl hwf ?_; rw [hgj])
        all_goals
          refine ⟨fun _ h => (by cases h), ?_⟩
          gi_wp2
          go_roundw
          case rel => exact ⟨j + 1, by go_num, by omega, by rw [HE.out]; exact HJ1, HM1⟩
          case measure => simp [intOf]; omega
      | false =>
        have HE : Hid (emptyL g (j + 1) = emptyL g j ++ [(j : Int)]) := Lib.hid (by rw [emptyL, if_neg (by rw [hgj]; simp)])
        have hp : emptyL g j ++ [(j : Int)] <+: emptyL g k.toNat := by rw [← HE.out]; exact emptyL_le g (by omega)
        obtain ⟨fn, tmps, assign, body, hy, hR⟩ := hY (emptyL g j) (j : Int) (wr.alloc (.cells #[] 108)) (HJ.out _ _ _ none hJs.out (World.grownBy_alloc wr _ none) (fun r e => by cases e)) hp
        dsimp only [enc1] at hy
        have HR1 := Lib.hid hR
        have HM1 := Lib.hid hal
        clear hal hY hR hp
        gi_wp2_with (gi_at_lookup; refine wpListIn_lookup_S rfl _ _ 107 rfl 3 108 Try.underlying107 Try.underlying3 (by rfl) mb nn g rfl HS.out (j : Int) rfl hwf ?_; rw [hgj])
        refine RoundIn.mono HR1.out ?_
        rintro e W3 (⟨rfl, hJ3, hk3⟩ | ⟨rfl, hJx3⟩)
        · have HJ3 := Lib.hid hJ3
          have HK3 := Lib.hid (HM1.out.trans hk3)
          clear hJ3 hk3
          gi_wp2
          go_roundw
          case rel => exact ⟨j + 1, by go_num, by omega, by rw [HE.out]; exact HJ3, HK3⟩
          case measure => simp [intOf]; omega
        · have HJX := Lib.hid hJx3
          clear hJx3
          gi_wp2
          refine bodyPost_ret (results_none rfl _ _ _) rfl ?_
          exact ⟨⟨_, rfl⟩, .inr ⟨emptyL g j ++ [(j : Int)], by rw [← HE.out]; exact emptyL_le g (by omega), HJX.out⟩⟩
    · have hkj : k.toNat = j := by omega
      have HJf : Hid (J (emptyL g k.toNat) wr) := by rw [hkj]; exact hJs
      gi_wp2
      go_end0
      exact ⟨⟨_, rfl⟩, .inl (by first | exact HJf.out | exact hJs.out)⟩
theorem EmpR.wide {lo hi hi' b1 b2 mb : Nat} {k : Int} {n : Nat} {g : Int → Bool} {W : World} (h : EmpR lo hi b1 b2 mb k n g W) (hh : hi ≤ hi') : EmpR lo hi' b1 b2 mb k n g W :=
  ⟨h.bk, h.bm, h.set, ⟨h.l1.1, by have := h.l1.2; omega⟩, ⟨h.l2.1, by have := h.l2.2; omega⟩, ⟨h.l3.1, by have := h.l3.2; omega⟩⟩
theorem EmpR.put {lo hi b1 b2 mb : Nat} {k : Int} {n n' : Nat} {g g' : Int → Bool} {W W' : World} (h : EmpR lo hi b1 b2 mb k n g W) (hs : SetI W' Try.prog 3 mb n' g') (hg : W.grownBy W' (some mb)) (h1 : b1 ≠ mb) (h2 : b2 ≠ mb) : EmpR lo hi b1 b2 mb k n' g' W' :=
  ⟨h.bk.kept hg (fun e => h1 (by cases e; rfl)), h.bm.kept hg (fun e => h2 (by cases e; rfl)), hs, h.l1, h.l2, h.l3⟩
theorem mem_take_succ' (zs : List Int) {j : Nat} (hj : j < zs.length) (x : Int) : x ∈ zs.take (j + 1) ↔ x = zs.getD j 0 ∨ x ∈ zs.take j := by
  rw [List.take_succ_eq_append_getElem hj, List.mem_append, List.mem_singleton, List.getD_eq_getElem?_getD, List.getElem?_eq_getElem hj]
  simp [or_comm]
/-- What the call leaves. -/
def EmptyPost (ms : List Int) (k : Int) (w : World) (e : Ending) (w' : World) : Prop :=
  ∃ b1 b2 mb n, e = .returned (.func (.func 65) #[] #[.pointer (some ⟨b1, 0, none⟩), .pointer (some ⟨b2, 0, none⟩)]) ∧ EmpR w.heap.size w'.heap.size b1 b2 mb k n (fun x => decide (x ∈ ms)) w' ∧ Below w.heap.size w w'
set_option maxRecDepth 100000 in
set_option maxHeartbeats 2000000 in
theorem empty_any {w : World} {a : Option Addr} {b off len cap : Nat} {ms : List Int} (hm : IntsAt .i64 w.heap.size w a b off len ms) (hlen : len ≤ 100000) (k : Int) :
    Calls Try.prog 47 #[.slice a len cap, .int .i64 k] w (EmptyPost ms k w) := by
  have b0 : Below w.heap.size w (((w.alloc (.cells #[.int .i64 k] 3)).alloc (.map #[] 0)).alloc (.cells #[.map (some (w.heap.size + 1))] 107)) := (((Below.refl _ w).alloc (Nat.le_refl _) _).alloc (by simp) _).alloc (by simp; omega) _
  have hE0 : EmpR w.heap.size (w.heap.size + 1 + 1 + 1) w.heap.size (w.heap.size + 1 + 1) (w.heap.size + 1) k 0 (fun _ => false) (((w.alloc (.cells #[.int .i64 k] 3)).alloc (.map #[] 0)).alloc (.cells #[.map (some (w.heap.size + 1))] 107)) := by
    refine ⟨((Boxed.new w _ _).alloc _).alloc _, ?_, ?_, by omega, by omega, by omega⟩
    · have := Boxed.new ((w.alloc (.cells #[.int .i64 k] 3)).alloc (.map #[] 0)) 107 (.map (some (w.heap.size + 1)))
      simp only [World.size_alloc] at this
      exact this
    · have h1 := SetI.made (w.alloc (.cells #[.int .i64 k] 3)) Try.prog 3
      rw [World.size_alloc] at h1
      exact h1.kept (World.grownBy_alloc _ _ none) (fun e => by cases e)
  have hln := hm.length
  have HM := Lib.hid hm
  have HL := Lib.hid hln
  have HE0 := Lib.hid hE0
  have HB0 := Lib.hid b0
  have hmm := @run_makeMap Try.prog
  clear hm hln hE0 b0
  go_enter Try.func47, Try.ntmps47
  go_wp2
  generalize ((w.alloc (.cells #[.int .i64 k] 3)).alloc (.map #[] 0)).alloc (.cells #[.map (some (w.heap.size + 1))] 107) = w1 at *
  go_loopw [11] (fun i wr => ∃ (j : Nat), i = .int .i64 j ∧ j ≤ len ∧ Hid (EmpR w.heap.size (w.heap.size + 1 + 1 + 1) w.heap.size (w.heap.size + 1 + 1) (w.heap.size + 1) k j (fun x => decide (x ∈ ms.take j)) wr) ∧ Hid (Below w.heap.size w wr)) (fun i _ => len - (intOf i).toNat)
  case atStart => exact ⟨0, rfl, Nat.zero_le _, Lib.hid ⟨HE0.out.bk, HE0.out.bm, HE0.out.set.congr (fun x => by simp), HE0.out.l1, HE0.out.l2, HE0.out.l3⟩, HB0⟩
  case round =>
    clear HE0 HB0
    obtain ⟨j, rfl, hj, HE, HB⟩ := hrel
    by_cases hlt : j < len
    · have hI := HM.out.kept HB.out (Nat.le_refl _)
      have hcell := hI.cell j hlt
      obtain rfl : a = some ⟨b, off, none⟩ := HM.out.addr.resolve_left (by omega)
      have hjz : j < ms.length := by rw [HL.out]; exact hlt
      have hwf : (Lit.int .i64 (ms.getD j 0)).wf = true := hI.fits _ (by rw [List.getD_eq_getElem?_getD, List.getElem?_eq_getElem hjz]; exact List.getElem_mem _)
      have HT : Hid (∀ x : Int, (decide (x = ms.getD j 0) || decide (x ∈ ms.take j)) = decide (x ∈ ms.take (j + 1))) := Lib.hid (fun x => by
        rw [← Bool.decide_or, decide_eq_decide]
        exact (mem_take_succ' ms hjz x).symm)
      generalize ms.getD j 0 = y at *
      have cm := HE.out.bm.cell
      have HS := Lib.hid HE.out.set
      have hzr := HB.out.size
      clear hI hjz
      go_wp2_with (at_mapUpdate; refine wpList_mapUpdate_S rfl _ _ _ 107 rfl 3 108 Try.underlying107 Try.underlying3 (w.heap.size + 1) j _ rfl HS.out (by unfold maxLen; omega) y rfl rfl hwf ?_; intro w8 hM8 hg8; have H8 := Lib.hid (And.intro hM8 hg8); clear hM8 hg8)
      go_roundw
      case rel =>
        obtain ⟨hM8, hg8⟩ := H8.out
        exact ⟨j + 1, by go_num, by omega, Lib.hid (HE.out.put (hM8.congr HT.out) hg8 (by omega) (by omega)), Lib.hid (HB.out.grown hg8 hzr (fun r e => by cases e; omega))⟩
      case measure => simp [intOf]; omega
    · obtain rfl : j = len := by omega
      have hzr : w.heap.size + 1 + 1 < wr.heap.size := HE.out.bm.lt
      have HF : Hid (EmpR w.heap.size wr.heap.size w.heap.size (w.heap.size + 1 + 1) (w.heap.size + 1) k j (fun x => decide (x ∈ ms)) wr) := Lib.hid (by
        have h := HE.out.wide (hi' := wr.heap.size) (by omega)
        rw [List.take_of_length_le (by rw [HL.out]; exact Nat.le_refl _)] at h
        exact h)
      go_wp2
      go_ret
      exact ⟨_, _, _, _, rfl, HF.out, HB.out⟩
end Go.Proofs.Ytjpgkocffceeoaa

namespace Go.Proofs.Ytjpgkocffceeoaa.L09
open Go.RowKit Go.Shelf Rk

attribute [local go_sem] Oper.semAt_some

theorem Try.infoInt : (Try.prog.info? 3).map (fun i => (i.zero, i.size, i.bytes)) = some (some (.int .i64 0), 1, 8) := by kernel_rfl
theorem boxed_alloc1 (w : World) (u : Value) (t : TypeId) {w1 : World} (hb : Below (w.heap.size + 1) (w.alloc (.cells #[u] t)) w1) : Boxed w1 w.heap.size t u :=
  (hb.block w.heap.size (by omega)).trans (Boxed.new w t u)
theorem boxed_alloc3 (w : World) (u : Value) (t : TypeId) (o2 o3 : Obj) {w1 : World} (hb : Below (w.heap.size + 1 + 1 + 1) (((w.alloc (.cells #[u] t)).alloc o2).alloc o3) w1) : Boxed w1 w.heap.size t u :=
  (hb.block w.heap.size (by omega)).trans (((Boxed.new w t u).alloc o2).alloc o3)
theorem boxed_alloc4 (w : World) (u : Value) (t : TypeId) (o2 o3 o4 : Obj) {w1 : World} (hb : Below (w.heap.size + 1 + 1 + 1 + 1) ((((w.alloc (.cells #[u] t)).alloc o2).alloc o3).alloc o4) w1) : Boxed w1 w.heap.size t u :=
  (hb.block w.heap.size (by omega)).trans ((((Boxed.new w t u).alloc o2).alloc o3).alloc o4)
def ints (l : List Int) : List Value := l.map fun x => .int .i64 x
theorem ints_snoc (l : List Int) (x : Int) : ints (l ++ [x]) = ints l ++ [.int .i64 x] := by unfold ints; rw [List.map_append]; rfl
def ListPost (w : World) (ys : List Int) (e : Ending) (w' : World) : Prop :=
  ∃ v, e = .returned v ∧ Gath w' w.heap.size 3 1 v ys.length (ints ys) ∧ Below w.heap.size w w'
set_option maxRecDepth 100000 in
theorem none_any {w : World} {a : Option Addr} {len cap : Nat} (k m : Int) (hm : m ≤ 0) : Calls Try.prog 17 #[.slice a len cap, .int .i64 k, .int .i64 m] w (ListPost w []) := by
  have hd : decide (m ≤ 0) = true := by simpa using hm
  refine (callsIn_wide (n := 3)).1 ?_
  refine callsIn_of_wp_marks Try.func17 rfl trivial ?_ rfl
  simp only [Try.ntmps17, List.size_toArray, List.length_cons, List.length_nil, Nat.reduceAdd, Nat.reduceSub, Array.replicate_succ, Array.replicate_zero, List.push_toArray, List.append_toArray, List.nil_append, List.cons_append]
  gi_wp2
  exact ⟨.slice (some ⟨w.heap.size + 1 + 1, 0, none⟩) 0 0, by simp [results, Try.f17, go_sem], _, rfl, .inl ⟨rfl, rfl, _, rfl⟩, ((((Below.refl _ w).alloc (Nat.le_refl _) _).alloc (by simp) _).alloc (by simp; omega) _).alloc (by simp; omega) _⟩
set_option maxRecDepth 100000 in
set_option maxHeartbeats 2000000 in
theorem some_any {w : World} {a : Option Addr} {b off len cap : Nat} {ms : List Int} (hms : IntsAt .i64 w.heap.size w a b off len ms) (hlen : len ≤ 100000) (k : Int) (hk : k ≤ 1000000) (m : Nat) (hm1 : 1 ≤ m) (hm : m ≤ 100000) :
    Calls Try.prog 17 #[.slice a len cap, .int .i64 k, .int .i64 (m : Int)] w (ListPost w ((emptyL (fun x => decide (x ∈ ms)) k.toNat).take m)) := by
  obtain ⟨i0, hi, hz0, hz1, hz2⟩ := info_parts Try.infoInt
  have HI := Lib.hid hi
  have HZ0 := Lib.hid hz0
  have HZ1 := Lib.hid hz1
  have HZ2 := Lib.hid hz2
  clear hi hz0 hz1 hz2
  have hd : decide ((m : Int) ≤ 0) = false := by simp; omega
  have b0 : Below w.heap.size w ((((w.alloc (.cells #[.int .i64 (m : Int)] 3)).alloc (.cells #[.slice none 0 0] 24)).alloc (.cells #[] 3)).alloc (.cells #[.slice (some ⟨w.heap.size + 1 + 1, 0, none⟩) 0 0] 24)) := ((((Below.refl _ w).alloc (Nat.le_refl _) _).alloc (by simp) _).alloc (by simp; omega) _).alloc (by simp; omega) _
  have HALL := Lib.hid (empty_any (cap := cap) ((hms.kept b0 (Nat.le_refl _)).mono b0.size) hlen k)
  have HB0 := Lib.hid b0
  have hDl : (emptyL (fun x => decide (x ∈ ms)) k.toNat).length ≤ 1000000 := Nat.le_trans (emptyL_length _ _) (by omega)
  obtain ⟨D, hDD⟩ : ∃ D, emptyL (fun x => decide (x ∈ ms)) k.toNat = D := ⟨_, rfl⟩
  rw [hDD] at hDl ⊢
  clear hms b0
  refine (callsIn_wide (n := 3)).1 ?_
  refine callsIn_of_wp_marks Try.func17 rfl trivial ?_ rfl
  simp only [Try.ntmps17, List.size_toArray, List.length_cons, List.length_nil, Nat.reduceAdd, Nat.reduceSub, Array.replicate_succ, Array.replicate_zero, List.push_toArray, List.append_toArray, List.nil_append, List.cons_append]
  gi_wp2_with (refine ⟨trivial, ?_⟩; gi_at_call 47; refine (callsIn_wide.2 HALL.out).mono ?_; rintro e w1 ⟨b1, b2, mb, nn, rfl, hE, hB1⟩)
  have hsz := hB1.size
  simp only [World.size_alloc] at hsz hB1 hE
  have hB := HB0.out.trans (hB1.mono (by omega))
  have bM := boxed_alloc4 w (.int .i64 (m : Int)) 3 (.cells #[.slice none 0 0] 24) (.cells #[] 3) (.cells #[.slice (some ⟨w.heap.size + 1 + 1, 0, none⟩) 0 0] 24) hB1
  have bR := boxed_alloc3 (w.alloc (.cells #[.int .i64 (m : Int)] 3)) (.slice none 0 0) 24 (.cells #[] 3) (.cells #[.slice (some ⟨w.heap.size + 1 + 1, 0, none⟩) 0 0] 24) (w1 := w1) (by simpa using hB1)
  have bO := boxed_alloc1 (((w.alloc (.cells #[.int .i64 (m : Int)] 3)).alloc (.cells #[.slice none 0 0] 24)).alloc (.cells #[] 3)) (.slice (some ⟨w.heap.size + 1 + 1, 0, none⟩) 0 0) 24 (w1 := w1) (by simpa using hB1)
  simp only [World.size_alloc] at bR bO
  have hst := (empty1_in 2 (by omega) hk w1 hE (Nat.le_refl _)).stops
  clear hB1
  have hC0 : Coll w.heap.size (w.heap.size + 1 + 1 + 1 + 1) w1.heap.size w.heap.size (w.heap.size + 1) (w.heap.size + 1 + 1 + 1) 3 24 3 (.int .i64 (m : Int)) (.slice none 0 0) w 0 [] w1 (.slice (some ⟨w.heap.size + 1 + 1, 0, none⟩) 0 0) :=
    ⟨bO, .inl ⟨rfl, rfl, _, rfl⟩, bM, bR, hB, Nat.le_refl _⟩
  rw [hDD] at hst
  refine wpIn_rangeFunc_ownG rfl (by omega) (gf := 65) (lb := #[.pointer (some ⟨b1, 0, none⟩), .pointer (some ⟨b2, 0, none⟩)]) rfl trivial (enters_of Try.func65 (by kernel_rfl) rfl)
    hst Mid.trans (Mid.putObj (Nat.le_refl _)) (Below.refl _ _) (fun _ => rfl)
    (fun pre W => pre.length < m ∧ CollI w.heap.size (w.heap.size + 1 + 1 + 1 + 1) w1.heap.size w.heap.size (w.heap.size + 1) (w.heap.size + 1 + 1 + 1) 3 24 3 (.int .i64 (m : Int)) (.slice none 0 0) w pre.length (ints pre) W)
    (fun c pre W => c = .ret ∧ pre.length = m ∧ ∃ v, Boxed W (w.heap.size + 1) 24 v ∧ Gath W w1.heap.size 3 1 v pre.length (ints pre) ∧ Below w.heap.size w W)
    (fun s A B row hs hg hr => ⟨hs.1, hs.2.elim fun v hC => ⟨v, hC.turned (by omega) (Nat.le_refl _) hg hr⟩⟩)
    (fun c s A B row hs hg hr => by
      obtain ⟨hc, e1, v, e3, e4, e5⟩ := hs
      exact ⟨hc, e1, v, boxed_kept e3 hg (fun r e => (hr r e).2), gath_kept e4 hg (fun r e => (hr r e).2), e5.grown hg e5.size (fun r e => by have := (hr r e).1; omega)⟩)
    ⟨by show 0 < m; omega, _, hC0⟩
    ?_ ?assign ?body ?done ?stop
  case assign =>
    intro l x W K hK
    unfold enc1
    gi_wp2
    exact hK
  case body =>
    rintro l pre x W ⟨hpm, v, hC⟩ hltz
    obtain ⟨a6, cap6, rfl⟩ := hC.row.slice
    have c1 := hC.box.cell
    have c2 := hC.boxM.cell
    have c3 := hC.boxR.cell
    have f3 := hC.boxR.frozen
    have HC := Lib.hid hC
    have hszW := hC.size
    clear hC hC0 bM bR bO hB hst hE
    by_cases hme : pre.length + 1 = m
    · have hmb : ((pre.length : Int) + 1 == (m : Int)) = true := by simp; omega
      have HM := Lib.hid hme
      clear hme
      gi_wp2_with (gi_at_builtin; refine wpListIn_append_gath _ rfl _ _ 24 rfl w1.heap.size 3 i0 (.int .i64 0) 1 8 Try.underlying24 HI.out HZ0.out HZ1.out HZ2.out rfl (by decide) _ _ _ rfl (HC.out.row.alloc _) ⟨W.heap.size, 0, none⟩ 1 1 [.int .i64 x] rfl rfl (cell_one _ _ _) (one_val rfl) (by decide) (by unfold maxLen; omega) (by omega) (by simp; omega) ?_; intro v' w3 row hown hgrow hrow; obtain ⟨g', cap', rfl⟩ := ownsRow_succ hown; obtain ⟨hb1, hC1, hk1, hm1⟩ := HC.out.appended (by omega) (by omega) (by omega) (by omega) (by omega) (by omega) (by omega) hown hgrow hrow; have hc1 := hb1.cell; have hf1 := hb1.frozen; clear c1 c2 c3 f3; have c1 := hC1.box.cell; have c2 := hC1.boxM.cell; have c3 := hC1.boxR.cell; have f3 := hC1.boxR.frozen)
      refine ⟨(hk1.trans (KeepsOthers.setCell _ _ _)).from _, rfl, by rw [List.length_append]; exact HM.out, .slice (some ⟨g', 0, none⟩) (pre.length + 1) cap', hC1.boxR.set _, ?_, hC1.below.setCell (p := ⟨w.heap.size + 1, 0, none⟩) (by show w.heap.size ≤ w.heap.size + 1; omega) _⟩
      rw [List.length_append, ints_snoc]
      exact gath_set hC1.row (by omega) _
    · have hmb : ((pre.length : Int) + 1 == (m : Int)) = false := by simp; omega
      have hpl : pre.length + 1 < m := by omega
      clear hme
      gi_wp2_with (gi_at_builtin; refine wpListIn_append_gath _ rfl _ _ 24 rfl w1.heap.size 3 i0 (.int .i64 0) 1 8 Try.underlying24 HI.out HZ0.out HZ1.out HZ2.out rfl (by decide) _ _ _ rfl (HC.out.row.alloc _) ⟨W.heap.size, 0, none⟩ 1 1 [.int .i64 x] rfl rfl (cell_one _ _ _) (one_val rfl) (by decide) (by unfold maxLen; omega) (by omega) (by simp; omega) ?_; intro v' w3 row hown hgrow hrow; obtain ⟨g', cap', rfl⟩ := ownsRow_succ hown; obtain ⟨hb1, hC1, hk1, hm1⟩ := HC.out.appended (by omega) (by omega) (by omega) (by omega) (by omega) (by omega) (by omega) hown hgrow hrow; have hc1 := hb1.cell; have hf1 := hb1.frozen; clear c1 c2 c3 f3; have c1 := hC1.box.cell; have c2 := hC1.boxM.cell)
      refine ⟨hk1.from _, hm1, by rw [List.length_append]; exact hpl, .slice (some ⟨g', 0, none⟩) (pre.length + 1) cap', ?_⟩
      rw [List.length_append, ints_snoc]
      exact hC1
  case done =>
    rintro E ys W hD rfl ⟨hpm, v, hC⟩ hK
    obtain ⟨a6, cap6, rfl⟩ := hC.row.slice
    have c1 := hC.box.cell
    have c3 := hC.boxR.cell
    have f3 := hC.boxR.frozen
    have HC := Lib.hid hC
    clear hC hC0 bM bR bO hB hst hE
    gi_wp2
    have hK' := (KeepsOthers.setCell W ⟨w.heap.size + 1, 0, none⟩ (.slice a6 ys.length cap6)).same E _ hK rfl
    refine ⟨by simp, .inl ⟨_, _, rfl, run_takeDeferred hK', ?_⟩⟩
    have hc5 := cell_kept (HC.out.boxR.set (.slice a6 ys.length cap6)).cell (grownBy_putObj' _ E (.deferred none)) (fun r e => by cases e; exact ⟨_, hK', rfl⟩)
    refine ⟨.slice a6 ys.length cap6, ?_, _, rfl, ?_, ?_⟩
    · simp [results, Try.f17, go_sem, hc5]
    · rw [List.take_of_length_le (by omega)]
      exact gath_putObj (gath_base (gath_set HC.out.row (by omega) _) (by omega)) _ hK' rfl
    · exact (HC.out.below.setCell (p := ⟨w.heap.size + 1, 0, none⟩) (by show w.heap.size ≤ w.heap.size + 1; omega) _).trans (belowK_b (w := w) (Nat.le_refl _) _ E _ _ (by omega) hK' rfl rfl)
  case stop =>
    rintro E c pre W hD hpre ⟨rfl, hil, v, hbR, hg, hbel⟩ hK
    obtain ⟨a6, cap6, rfl⟩ := hg.slice
    gi_wp2
    refine ⟨by simp, .inl ⟨_, _, rfl, run_takeDeferred hK, ?_⟩⟩
    have hc5 := cell_kept hbR.cell (grownBy_putObj' _ E (.deferred none)) (fun r e => by cases e; exact ⟨_, hK, rfl⟩)
    have htk : D.take m = pre := by
      obtain ⟨t, ht⟩ := hpre
      rw [← ht, ← hil, List.take_left]
    refine ⟨.slice a6 pre.length cap6, ?_, _, rfl, ?_, ?_⟩
    · simp [results, Try.f17, go_sem, hc5]
    · rw [htk]
      exact gath_putObj (gath_base hg (by omega)) _ hK rfl
    · exact hbel.trans (belowK_b (w := w) (Nat.le_refl _) _ E _ _ (by omega) hK rfl rfl)
/-- Whatever number is asked for. -/
theorem lempty_any {w : World} {a : Option Addr} {b off len cap : Nat} {ms : List Int} (hms : IntsAt .i64 w.heap.size w a b off len ms) (hlen : len ≤ 100000) (k : Int) (hk : k ≤ 1000000) (m : Int) (hm : m ≤ 100000) :
    Calls Try.prog 17 #[.slice a len cap, .int .i64 k, .int .i64 m] w (ListPost w ((emptyL (fun x => decide (x ∈ ms)) k.toNat).take m.toNat)) := by
  by_cases h : m ≤ 0
  · rw [show m.toNat = 0 by omega]
    exact none_any k m h
  · have := some_any (cap := cap) hms hlen k hk m.toNat (by omega) (by omega)
    rwa [show ((m.toNat : Nat) : Int) = m by omega] at this
end Go.Proofs.Ytjpgkocffceeoaa.L09

namespace Go.Proofs.Ytjpgkocffceeoaa
open Go.RowKit Rk

theorem and_255 (n : Int) : bits .and .i64 n 255 = n % 256 := by
  have h511 : (BitVec.ofInt 64 255).toNat = 2 ^ 8 - 1 := by decide
  have key : (BitVec.ofInt 64 n &&& BitVec.ofInt 64 255).toNat = (n % ((2 ^ 64 : Nat) : Int)).toNat % 2 ^ 8 := by
    rw [BitVec.toNat_and, BitVec.toNat_ofInt, h511, Nat.and_two_pow_sub_one_eq_mod]
  show IntKind.i64.wrap ((BitVec.ofInt 64 n &&& BitVec.ofInt 64 255).toNat : Nat) = n % 256
  rw [key, IntKind.wrap_i64]
  omega
theorem zeros_getD (n i : Nat) : mOf ((List.range n).map (fun _ => (0 : Int))) i = 0 := by
  unfold mOf
  by_cases h : i < n <;> simp [List.getD, h]
theorem zeros_right (n : Nat) : rightP n ((List.range n).map (fun _ => (0 : Int))) 1 = true :=
  rightP_mk (by simp) (by omega) (by omega) (fun p hp => by obtain ⟨_, _, rfl⟩ := List.mem_map.1 hp; omega)
theorem set_mOf {ms : List Int} {i : Nat} (hi : i < ms.length) (v : Int) : mOf (ms.set i v) i = v ∧ ∀ b, b ≠ i → mOf (ms.set i v) b = mOf ms b := by
  unfold mOf
  refine ⟨by simp [List.getD, hi], fun b hb => ?_⟩
  simp [List.getD, Ne.symm hb]
theorem set_right {n : Nat} {ms : List Int} {k : Int} (h : rightP n ms k = true) (i : Nat) {v : Int} (h0 : 0 ≤ v) (h1 : v < k) : rightP n (ms.set i v) k = true := by
  obtain ⟨h2, h3, h4⟩ := rightP_t h
  refine rightP_mk (by rw [List.length_set]; exact h2) h3.1 h3.2 fun p hp => ?_
  rcases List.mem_or_eq_of_mem_set hp with h5 | h5
  · exact h4 p h5
  · subst h5; exact ⟨h0, h1⟩
end Go.Proofs.Ytjpgkocffceeoaa

namespace Go.Proofs.Ytjpgkocffceeoaa
open Go.RowKit Rk

set_option maxHeartbeats 1000000 in
theorem xin_any {B : Nat} {w : World} {a : Option Addr} {b off len cap : Nat} {ms : List Int} (hm : IntsAt .i64 B w a b off len ms) (x : Int) :
    Calls Try.prog 46 #[.slice a len cap, .int .i64 x] w fun e w' => e = .returned (.bool (decide (x ∈ ms))) ∧ w = w' := by
  have hsm := hm.small
  unfold maxLen at hsm
  have HM := Lib.hid hm
  have HL := Lib.hid hm.length
  clear hm
  go_enter Try.func46, Try.ntmps46
  go_wp2
  go_loop [5] (fun i => ∃ j : Nat, j ≤ len ∧ i = .int .i64 j ∧ Hid (¬ x ∈ ms.take j)) (fun i => len - (intOf i).toNat)
  case atStart => exact ⟨0, Nat.zero_le _, rfl, Lib.hid (by simp)⟩
  case round =>
    obtain ⟨j, hj, rfl, hs⟩ := hrel
    by_cases hlt : j < len
    · have hcell := HM.out.cell j hlt
      obtain rfl : a = some ⟨b, off, none⟩ := HM.out.addr.resolve_left (by omega)
      have hkz : j < ms.length := by rw [HL.out]; exact hlt
      have HT := Lib.hid (take_snoc hkz)
      have HMEM := Lib.hid (getD_mem hkz)
      generalize ms.getD j 0 = y at *
      clear hkz
      by_cases hyx : y = x
      · have hd : (y == x) = true := by simpa using hyx
        have HE : Hid (decide (x ∈ ms) = true) := Lib.hid (decide_eq_true (hyx ▸ HMEM.out))
        clear hyx
        go_wp2
        go_ret
        exact ⟨retb HE.out.symm, rfl⟩
      · have hd : (y == x) = false := by simpa using hyx
        have HE : Hid (¬ x ∈ ms.take (j + 1)) := Lib.hid (by rw [HT.out, List.mem_append, List.mem_singleton]; rintro (h | h); exact hs.out h; exact hyx h.symm)
        clear hyx
        go_wp2
        go_round
        case rel => exact ⟨j + 1, by omega, by go_num, HE⟩
        case measure => simp [intOf]; omega
    · have HE : Hid (decide (x ∈ ms) = false) := Lib.hid (decide_eq_false (by
        have := hs.out
        rwa [List.take_of_length_le (by rw [HL.out]; omega)] at this))
      go_wp2
      go_ret
      exact ⟨retb HE.out.symm, rfl⟩
section
variable {W W' : World} {X : XD} {lo : Nat} {ws : List Int} {F : Nat → Nat → Int}
set_option maxHeartbeats 1000000 in
theorem xright_any (h : IsX W X lo ws F) {B : Nat} {a : Option Addr} {b off len cap : Nat} {ms : List Int} (hm : IntsAt .i64 B W a b off len ms) (hB : B ≤ W.heap.size) (k : Int) :
    Calls Try.prog 11 #[X.val ws.length, .slice a len cap, .int .i64 k] W fun e w' => e = .returned (.bool (rightP ws.length ms k)) ∧ Below W.heap.size W w' := by
  have hal : Below W.heap.size W (W.alloc (.cells #[.slice X.wa ws.length X.wc, .slice X.ra ws.length X.rc] 29)) := (Below.refl _ _).alloc (Nat.le_refl _) _
  have hXd : (W.alloc (.cells #[.slice X.wa ws.length X.wc, .slice X.ra ws.length X.rc] 29)).heap[W.heap.size]? = some (.cells #[.slice X.wa ws.length X.wc, .slice X.ra ws.length X.rc] 29 (0, 0)) := heap_new (w := W) _ rfl
  have d0 : (W.alloc (.cells #[.slice X.wa ws.length X.wc, .slice X.ra ws.length X.rc] 29)).cell? ⟨W.heap.size, 0, none⟩ = some (.slice X.wa ws.length X.wc) := heap_cell hXd rfl
  have HA := Lib.hid hal
  have HM := Lib.hid (hm.kept (hal.mono hB) (Nat.le_refl _))
  have HL := Lib.hid hm.length
  have hsm := hm.small
  have hsm2 := h.small
  unfold maxLen at hsm
  generalize ws.length = n at *
  unfold XD.val
  clear h hm hal hXd
  by_cases hk1 : k < 1
  · have HE : Hid (rightP n ms k = false) := Lib.hid (by cases hr : rightP n ms k with | false => rfl | true => exact absurd (rightP_t hr).2.1.1 (by omega))
    go_enter Try.func11, Try.ntmps11
    go_wp2
    go_ret
    exact ⟨retb HE.out.symm, HA.out⟩
  by_cases hk2 : 4096 < k
  · have HE : Hid (rightP n ms k = false) := Lib.hid (by cases hr : rightP n ms k with | false => rfl | true => exact absurd (rightP_t hr).2.1.2 (by omega))
    go_enter Try.func11, Try.ntmps11
    go_wp2
    go_ret
    exact ⟨retb HE.out.symm, HA.out⟩
  by_cases hln : len = n
  · subst hln
    go_enter Try.func11, Try.ntmps11
    go_wp2
    generalize W.alloc (.cells #[.slice X.wa len X.wc, .slice X.ra len X.rc] 29) = w1 at *
    clear d0
    go_loop [7] (fun i => ∃ j : Nat, j ≤ len ∧ i = .int .i64 j ∧ Hid (∀ p ∈ ms.take j, 0 ≤ p ∧ p < k)) (fun i => len - (intOf i).toNat)
    case atStart => exact ⟨0, Nat.zero_le _, rfl, Lib.hid (by simp)⟩
    case round =>
      obtain ⟨j, hj, rfl, hs⟩ := hrel
      by_cases hlt : j < len
      · have hcell := HM.out.cell j hlt
        obtain rfl : a = some ⟨b, off, none⟩ := HM.out.addr.resolve_left (by omega)
        have hkz : j < ms.length := by rw [HL.out]; exact hlt
        have HT := Lib.hid (take_snoc hkz)
        have HMEM := Lib.hid (getD_mem hkz)
        generalize ms.getD j 0 = y at *
        clear hkz
        by_cases hy : 0 ≤ y ∧ y < k
        · have hd1 : decide (y < 0) = false := by simp; omega
          have hd2 : decide (k ≤ y) = false := by simp; omega
          have HE : Hid (∀ p ∈ ms.take (j + 1), 0 ≤ p ∧ p < k) := Lib.hid (by
            intro p hp
            rw [HT.out, List.mem_append, List.mem_singleton] at hp
            rcases hp with hp | rfl
            · exact hs.out p hp
            · exact hy)
          clear hy
          go_wp2
          go_round
          case rel => exact ⟨j + 1, by omega, by go_num, HE⟩
          case measure => simp [intOf]; omega
        · have HE : Hid (rightP len ms k = false) := Lib.hid (by cases hr : rightP len ms k with | false => rfl | true => exact absurd ((rightP_t hr).2.2 y HMEM.out) hy)
          by_cases hy0 : y < 0
          · clear hy
            go_wp2
            go_ret
            exact ⟨retb HE.out.symm, HA.out⟩
          · have hyk : k ≤ y := by omega
            clear hy
            go_wp2
            go_ret
            exact ⟨retb HE.out.symm, HA.out⟩
      · have HE : Hid (rightP len ms k = true) := Lib.hid (rightP_mk HL.out (by omega) (by omega) (by
          have := hs.out
          rwa [List.take_of_length_le (by rw [HL.out]; omega)] at this))
        go_wp2
        go_ret
        exact ⟨retb HE.out.symm, HA.out⟩
  · have HE : Hid (rightP n ms k = false) := Lib.hid (by cases hr : rightP n ms k with | false => rfl | true => exact absurd (rightP_t hr).1 (by rw [HL.out]; exact hln))
    have hd : ((len : Int) == (n : Int)) = false := by simp; omega
    go_enter Try.func11, Try.ntmps11
    go_wp2
    go_ret
    exact ⟨retb HE.out.symm, HA.out⟩
end
theorem upV_qr {a b : Int} (h1 : 1 ≤ a) (h2 : 1 ≤ b) : upV a b = if 0 < a % b then a / b + 1 else a / b := by
  unfold upV
  rw [if_neg (by omega)]
  have h3 := Int.mul_ediv_add_emod a b
  have h4 := Int.emod_nonneg a (show b ≠ 0 by omega)
  have h5 := Int.emod_lt_of_pos a (show 0 < b by omega)
  split
  · have e : a - 1 = (a % b - 1) + b * (a / b) := by omega
    have e2 : (a % b - 1 + b * (a / b)) / b = (a % b - 1) / b + a / b := Int.add_mul_ediv_left _ _ (by omega)
    rw [e, e2, Int.ediv_eq_zero_of_lt (by omega) (by omega)]; omega
  · have e : a - 1 = (b - 1) + b * (a / b - 1) := by rw [Int.mul_sub, Int.mul_one]; omega
    have e2 : (b - 1 + b * (a / b - 1)) / b = (b - 1) / b + (a / b - 1) := Int.add_mul_ediv_left _ _ (by omega)
    rw [e, e2, Int.ediv_eq_zero_of_lt (by omega) (by omega)]; omega
theorem emod_le {a b : Int} (h1 : 0 ≤ a) (h2 : 1 ≤ b) : a % b ≤ a := by
  have h3 := Int.mul_ediv_add_emod a b
  have h4 : 0 ≤ a / b := Int.ediv_nonneg h1 (by omega)
  have h5 : 0 ≤ b * (a / b) := Int.mul_nonneg (by omega) h4
  omega
theorem xup_any (a b : Int) (w : World) (a2 : a ≤ 9223372036854775806) :
    Calls Try.prog 36 #[.int .i64 a, .int .i64 b] w fun e w' => e = .returned (.int .i64 (upV a b)) ∧ w = w' := by
  by_cases ha : a < 1
  · have H : Hid (upV a b = 0) := Lib.hid (by unfold upV; exact if_pos (.inl ha))
    go_enter Try.func36, Try.ntmps36
    go_wp2
    go_ret
    exact ⟨ret1 H.out.symm, rfl⟩
  by_cases hb : b < 1
  · have H : Hid (upV a b = 0) := Lib.hid (by unfold upV; exact if_pos (.inr hb))
    go_enter Try.func36, Try.ntmps36
    go_wp2
    go_ret
    exact ⟨ret1 H.out.symm, rfl⟩
  have hq : Int.tdiv a b = a / b := Int.tdiv_eq_ediv_of_nonneg (by omega)
  have hr : Int.tmod a b = a % b := Int.tmod_eq_emod_of_nonneg (by omega)
  have h0 : 0 ≤ a / b := Int.ediv_nonneg (by omega) (by omega)
  have h1 : a / b ≤ a := Int.ediv_le_self _ (by omega)
  have h2 := Int.emod_nonneg a (show b ≠ 0 by omega)
  have h3 := emod_le (a := a) (b := b) (by omega) (by omega)
  have hbz : (b == 0) = false := by simp; omega
  have HU := Lib.hid (upV_qr (a := a) (b := b) (by omega) (by omega))
  generalize a / b = q at *
  generalize a % b = r at *
  have hw : IntKind.i64.wrap q = q := IntWalk.i64_in _ (by omega)
  have hw1 : IntKind.i64.wrap (q + 1) = q + 1 := IntWalk.i64_in _ (by omega)
  have hw2 : IntKind.i64.wrap r = r := IntWalk.i64_in _ (by omega)
  by_cases hm : 0 < r
  · have H : Hid (upV a b = q + 1) := Lib.hid (by rw [HU.out, if_pos hm])
    go_enter Try.func36, Try.ntmps36
    go_wp2
    go_ret
    exact ⟨ret1 H.out.symm, rfl⟩
  · have H : Hid (upV a b = q) := Lib.hid (by rw [HU.out, if_neg hm])
    go_enter Try.func36, Try.ntmps36
    go_wp2
    go_ret
    exact ⟨ret1 H.out.symm, rfl⟩

section
variable {W W' : World} {X : XD} {lo : Nat} {ws : List Int} {F : Nat → Nat → Int}
set_option maxHeartbeats 1000000 in
theorem xtotal_any (h : IsX W X lo ws F) (hw : ∀ x ∈ ws, 1 ≤ x ∧ x ≤ 1099511627776) : Calls Try.prog 37 #[X.val ws.length] W fun e w' => e = .returned (.int .i64 ws.sum) ∧ Below W.heap.size W w' := by
  have hal : Below W.heap.size W (W.alloc (.cells #[.slice X.wa ws.length X.wc, .slice X.ra ws.length X.rc] 29)) := (Below.refl _ _).alloc (Nat.le_refl _) _
  have hXd : (W.alloc (.cells #[.slice X.wa ws.length X.wc, .slice X.ra ws.length X.rc] 29)).heap[W.heap.size]? = some (.cells #[.slice X.wa ws.length X.wc, .slice X.ra ws.length X.rc] 29 (0, 0)) := heap_new (w := W) _ rfl
  have HXD := Lib.hid hXd
  have HA := Lib.hid hal
  have HI := Lib.hid (h.ints.kept hal (Nat.le_refl _))
  have hsm := h.small
  have HW := Lib.hid hw
  obtain ⟨n, hnn⟩ : ∃ n, ws.length = n := ⟨_, rfl⟩
  have HN := Lib.hid hnn
  unfold XD.val
  rw [hnn] at HXD HA HI hsm ⊢
  clear h hal hXd hw hnn
  go_enter Try.func37, Try.ntmps37
  go_wp2
  revert HXD HA HI
  generalize W.alloc (.cells #[.slice X.wa n X.wc, .slice X.ra n X.rc] 29) = w1
  intro HI HA HXD
  go_loop [3, 4] (fun t j => ∃ (k : Nat) (s : Int), j = .int .i64 k ∧ t = .int .i64 s ∧ k ≤ n ∧ 0 ≤ s ∧ s ≤ 1099511627776 * (k : Int) ∧ Hid ((ws.take k).sum = s)) (fun _ j => n - (intOf j).toNat)
  case atStart => exact ⟨0, 0, rfl, rfl, Nat.zero_le _, by omega, by omega, Lib.hid rfl⟩
  case round =>
    obtain ⟨k, s, rfl, rfl, hk, hs0, hs1, HS⟩ := hrel
    by_cases hlt : k < n
    · have hkz : k < ws.length := by rw [HN.out]; exact hlt
      have hc := HI.out.cell k hlt
      rw [Nat.zero_add] at hc
      have hbd := getD_wts HW.out hkz
      have HST := Lib.hid (sum_take_succ hkz)
      have haw := HI.out.addr.resolve_left (by omega)
      have d0 : w1.cell? ⟨W.heap.size, 0, none⟩ = some (.slice (some ⟨X.wb, 0, none⟩) n X.wc) := by rw [← haw]; exact heap_cell HXD.out rfl
      generalize ws.getD k 0 = x at *
      clear hkz haw
      go_wp2
      go_round
      case rel => exact ⟨k + 1, s + x, by go_num, by go_num, by omega, by omega, by omega, Lib.hid (by rw [HST.out, HS.out])⟩
      case measure => simp [intOf]; omega
    · have HF : Hid (s = ws.sum) := Lib.hid (by rw [← HS.out, List.take_of_length_le (by have := HN.out; omega)])
      have d0 : w1.cell? ⟨W.heap.size, 0, none⟩ = some (.slice X.wa n X.wc) := heap_cell HXD.out rfl
      go_wp2
      go_ret
      exact ⟨ret1 HF.out, HA.out⟩
end

section
variable {W W' : World} {X : XD} {lo : Nat} {ws : List Int} {F : Nat → Nat → Int}
set_option maxHeartbeats 1000000 in
theorem xbound_any (h : IsX W X lo ws F) (hw : ∀ x ∈ ws, 1 ≤ x ∧ x ≤ 1099511627776) {k : Int} (hk1 : 1 ≤ k) (hk2 : k ≤ 4096) :
    Calls Try.prog 12 #[X.val ws.length, .int .i64 k] W fun e w' => e = .returned (.int .i64 (boundF ws k)) ∧ Below W.heap.size W w' := by
  have hal : Below W.heap.size W (W.alloc (.cells #[.slice X.wa ws.length X.wc, .slice X.ra ws.length X.rc] 29)) := (Below.refl _ _).alloc (Nat.le_refl _) _
  have hXd : (W.alloc (.cells #[.slice X.wa ws.length X.wc, .slice X.ra ws.length X.rc] 29)).heap[W.heap.size]? = some (.cells #[.slice X.wa ws.length X.wc, .slice X.ra ws.length X.rc] 29 (0, 0)) := heap_new (w := W) _ rfl
  have HXD := Lib.hid hXd
  have HA := Lib.hid hal
  have HI := Lib.hid (h.ints.kept hal (Nat.le_refl _))
  have CT := Lib.hid (xtotal_any (h.below hal) hw)
  have hsm := h.small
  have HW := Lib.hid hw
  have hs := sum_bd hw
  have hu := upV_bd (a := ws.sum) (b := k) hs.1
  have HE : Hid (boundF ws k = upV ws.sum k + maxT ws ws.length) := Lib.hid (if_pos (decide_eq_true ⟨hk1, hk2⟩))
  have HMB := Lib.hid (maxT_bd hw)
  have CU := Lib.hid (fun (w : World) => xup_any ws.sum k w (by omega))
  generalize ws.sum = S at *
  generalize upV S k = U at *
  obtain ⟨n, hnn⟩ : ∃ n, ws.length = n := ⟨_, rfl⟩
  have HN := Lib.hid hnn
  unfold XD.val at CT ⊢
  rw [hnn] at HXD HA HI hsm CT HE ⊢
  rw [hnn] at hs
  clear h hal hXd hw hnn
  go_enter Try.func12, Try.ntmps12
  go_wp2
  generalize W.alloc (.cells #[.slice X.wa n X.wc, .slice X.ra n X.rc] 29) = w1 at *
  go_loop [5, 6] (fun m j => ∃ k : Nat, j = .int .i64 k ∧ m = .int .i64 (maxT ws k) ∧ k ≤ n) (fun _ j => n - (intOf j).toNat)
  case atStart => exact ⟨0, rfl, rfl, Nat.zero_le _⟩
  case round =>
    obtain ⟨j, rfl, rfl, hj⟩ := hrel
    have hm := HMB.out j (by rw [HN.out]; exact hj)
    by_cases hlt : j < n
    · have hkz : j < ws.length := by rw [HN.out]; exact hlt
      have hc := HI.out.cell j hlt
      rw [Nat.zero_add] at hc
      have hbd := getD_wts HW.out hkz
      have haw := HI.out.addr.resolve_left (by omega)
      have d0 : w1.cell? ⟨W.heap.size, 0, none⟩ = some (.slice (some ⟨X.wb, 0, none⟩) n X.wc) := by rw [← haw]; exact heap_cell HXD.out rfl
      have HS : Hid (maxT ws (j + 1) = max (maxT ws j) (ws.getD j 0)) := Lib.hid rfl
      generalize ws.getD j 0 = x at *
      generalize maxT ws j = m at *
      clear hkz haw
      by_cases hx : m < x
      · have HS2 : Hid (maxT ws (j + 1) = x) := Lib.hid (by rw [HS.out]; omega)
        go_wp2
        go_round
        case rel => exact ⟨j + 1, by go_num, by rw [HS2.out], by omega⟩
        case measure => simp [intOf]; omega
      · have HS2 : Hid (maxT ws (j + 1) = m) := Lib.hid (by rw [HS.out]; omega)
        go_wp2
        go_round
        case rel => exact ⟨j + 1, by go_num, by rw [HS2.out], by omega⟩
        case measure => simp [intOf]; omega
    · obtain rfl : j = n := by omega
      have d0 : w1.cell? ⟨W.heap.size, 0, none⟩ = some (.slice X.wa j X.wc) := heap_cell HXD.out rfl
      have d1 : w1.cell? ⟨W.heap.size, 1, none⟩ = some (.slice X.ra j X.rc) := heap_cell HXD.out rfl
      generalize maxT ws j = m at *
      go_wp2_with (go_at_call 37; refine CT.out.mono ?_; clear CT; rintro e w2 ⟨rfl, hb⟩; have HB2 := Lib.hid (HA.out.trans (hb.mono HA.out.size)); clear hb)
      refine (CU.out _).mono ?_
      rintro e w3 ⟨rfl, rfl⟩
      have hw4 : IntKind.i64.wrap (U + m) = U + m := IntWalk.i64_in _ (by omega)
      go_wp2
      go_ret
      exact ⟨ret1 HE.out.symm, HB2.out⟩
end

section
variable {W W' : World} {X : XD} {lo : Nat} {ws : List Int} {F : Nat → Nat → Int}
set_option maxRecDepth 100000 in
set_option maxHeartbeats 2000000 in
theorem xweights_any (h : IsX W X lo ws F) (hw : ∀ x ∈ ws, 1 ≤ x ∧ x ≤ 1099511627776) {B : Nat} {a : Option Addr} {b off len cap : Nat} {ms : List Int} (hm : IntsAt .i64 B W a b off len ms) (hB : B ≤ W.heap.size) {kk : Nat} (hr : rightP ws.length ms (kk : Int) = true) :
    Calls Try.prog 24 #[X.val ws.length, .slice a len cap, .int .i64 (kk : Int)] W fun e w' => ∃ wb, e = .returned (.slice (some ⟨wb, 0, none⟩) kk kk) ∧ WtR W wb kk (wtsT ws ms ws.length) w' := by
  obtain ⟨h1, ⟨h2, h3⟩, h4⟩ := rightP_t hr
  have hal : Below W.heap.size W (W.alloc (.cells #[.slice X.wa ws.length X.wc, .slice X.ra ws.length X.rc] 29)) := (Below.refl _ _).alloc (Nat.le_refl _) _
  have hXd : (W.alloc (.cells #[.slice X.wa ws.length X.wc, .slice X.ra ws.length X.rc] 29)).heap[W.heap.size]? = some (.cells #[.slice X.wa ws.length X.wc, .slice X.ra ws.length X.rc] 29 (0, 0)) := heap_new (w := W) _ rfl
  have HXD := Lib.hid hXd
  have HA := Lib.hid hal
  have HI := Lib.hid (h.ints.kept hal (Nat.le_refl _))
  have HM := Lib.hid (hm.kept (hal.mono hB) (Nat.le_refl _))
  have hlen : len = ws.length := by rw [← hm.length, h1]
  have hsm := h.small
  have HW := Lib.hid hw
  have HP := Lib.hid h4
  have HL := Lib.hid h1
  have hbd := Lib.hid (fun j hj => wtsT_bd ms hw j hj)
  have hkk : kk ≤ 4096 := by omega
  have hk1 : 1 ≤ kk := by omega
  have z0 : W.heap.size < (W.alloc (.cells #[.slice X.wa ws.length X.wc, .slice X.ra ws.length X.rc] 29)).heap.size := by simp
  obtain ⟨n, hnn⟩ : ∃ n, ws.length = n := ⟨_, rfl⟩
  have HN := Lib.hid hnn
  unfold XD.val
  rw [hnn] at HXD HA HI HM hsm hlen z0 ⊢
  subst hlen
  clear h hm hr h1 h2 h3 h4 hal hXd hw hnn
  obtain ⟨w1, hw1⟩ : ∃ w1, W.alloc (.cells #[.slice X.wa len X.wc, .slice X.ra len X.rc] 29) = w1 := ⟨_, rfl⟩
  rw [hw1] at HXD HA HI HM z0
  have hmk := madeRow w1 kk hkk
  have hW0 : WtR w1 w1.heap.size kk (wtsT ws ms 0) (w1.alloc (.cells (rowC kk (noTab 0)) 2)) := ⟨World.alloc_heap_new w1 _, Nat.le_refl _, (Below.refl _ _).alloc (Nat.le_refl _) _⟩
  have HW0 := Lib.hid hW0
  clear hW0
  go_enter Try.func24, Try.ntmps24
  go_upto_region 1 with fail
  clear hw1
  go_wp2
  go_loopw [8] (fun i wr => ∃ j : Nat, i = .int .i64 j ∧ j ≤ len ∧ Hid (WtR w1 w1.heap.size kk (wtsT ws ms j) wr)) (fun i _ => len - (intOf i).toNat)
  case atStart => exact ⟨0, rfl, Nat.zero_le _, HW0⟩
  case round =>
    clear HW0 hmk
    obtain ⟨j, rfl, hj, HT⟩ := hrel
    by_cases hlt : j < len
    · have hI := HM.out.kept HT.out.below (Nat.le_trans hB HA.out.size)
      have hcell := hI.cell j hlt
      obtain rfl : a = some ⟨b, off, none⟩ := HM.out.addr.resolve_left (by omega)
      have hpj := HP.out (ms.getD j 0) (getD_mem (by rw [HL.out, HN.out]; exact hlt))
      obtain ⟨p, hp⟩ : ∃ p : Nat, ms.getD j 0 = (p : Int) := ⟨(ms.getD j 0).toNat, by omega⟩
      rw [hp] at hcell hpj
      have hpk : p < kk := by omega
      have hS : wtsT ws ms (j + 1) = upd (wtsT ws ms j) p (wtsT ws ms j p + ws.getD j 0) := by simp only [wtsT, hp, Int.toNat_natCast]
      have hb1 := hbd.out j (by rw [HN.out]; omega) p
      have hx := getD_wts HW.out (k := j) (by rw [HN.out]; omega)
      have hI2 := (HI.out.kept HT.out.below HA.out.size).cell j hlt
      rw [Nat.zero_add] at hI2
      have haw := HI.out.addr.resolve_left (by omega)
      have d0 : wr.cell? ⟨W.heap.size, 0, none⟩ = some (.slice (some ⟨X.wb, 0, none⟩) len X.wc) := by rw [← haw]; exact heap_cell (heap_below HXD.out HT.out.below z0) rfl
      have HS := Lib.hid hS
      generalize wtsT ws ms j = f at *
      generalize ws.getD j 0 = x at *
      have s0 : wr.cell? ⟨w1.heap.size, p, none⟩ = some (.int .i64 (f p)) := heap_cell HT.out.row (rowC_at f hpk)
      have s1 : wr.frozen? ⟨w1.heap.size, p, none⟩ = false := heap_frozen HT.out.row p
      have hw : IntKind.i64.wrap (f p + x) = f p + x := IntWalk.i64_in _ (by omega)
      have hpi : (p : Int) < (kk : Int) := by omega
      have HS2 : Hid (WtR w1 w1.heap.size kk (wtsT ws ms (j + 1)) ((wr.setCell ⟨w1.heap.size, p, none⟩ (.int .i64 (f p + x))).drew)) := Lib.hid (by rw [HS.out]; exact (HT.out.set hpk _).on (Below.refl _ _).drew)
      clear hI hp hS haw
      go_wp2_with fail
      go_region_with (fail)
      all_goals
        go_wp2
        go_roundw
        case rel => exact ⟨j + 1, by go_num, by omega, HS2⟩
        case measure => simp [intOf]; omega
    · obtain rfl : j = len := by omega
      go_wp2
      go_ret
      exact ⟨w1.heap.size, rfl, by first | rw [HN.out] | skip; exact ⟨HT.out.row, HA.out.size, HA.out.trans (HT.out.below.mono HA.out.size)⟩⟩
end
set_option maxRecDepth 100000 in
set_option maxHeartbeats 1000000 in
theorem xmove_any {w : World} {b off len cap : Nat} {ms : List Int} (hm : IntsAt .i64 w.heap.size w (some ⟨b, off, none⟩) b off len ms) (hl : len ≤ 60) {i : Nat} (hi : i < len) {v : Nat} (hv : v ≤ 4096) :
    Calls Try.prog 23 #[.slice (some ⟨b, off, none⟩) len cap, .int .i64 (i : Int), .int .i64 (v : Int)] w fun e w' => ∃ g c, e = .returned (.slice (some ⟨g, 0, none⟩) len c) ∧ IntsAt .i64 w'.heap.size w' (some ⟨g, 0, none⟩) g 0 len (ms.set i (v : Int)) ∧ Below w.heap.size w w' := by
  obtain ⟨n0, hi0, hz0, hz1, hz2⟩ := info_parts L09.Try.infoInt
  have HI := Lib.hid hi0
  have HZ0 := Lib.hid hz0
  have HZ1 := Lib.hid hz1
  have HZ2 := Lib.hid hz2
  have HM0 := Lib.hid hm
  have HL2 := Lib.hid hm.length
  have hlt : b < w.heap.size := hm.below.resolve_left (by omega)
  have hcells : ∀ o : Obj, ∀ j u, (ivals .i64 ms)[j]? = some u → (w.alloc o).cell? ((⟨b, off, none⟩ : Addr).add j) = some u := by
    intro o j u hj
    unfold ivals at hj
    rw [List.getElem?_map] at hj
    obtain ⟨n, hn, rfl⟩ := Option.map_eq_some_iff.1 hj
    obtain ⟨hjl, hjn⟩ := List.getElem?_eq_some_iff.1 hn
    have hc := HM0.out.cell j (by rw [← HL2.out]; exact hjl)
    rw [addr_add, World.cell?_alloc_lt w o (a := ⟨b, off + j, none⟩) hlt, hc]
    simp [List.getD, hn]
  have HCe := Lib.hid hcells
  have hwv := wf_small v (by omega)
  have HWV := Lib.hid hwv
  clear hi0 hz0 hz1 hz2 hcells hm hwv
  go_enter Try.func23, Try.ntmps23
  go_wp2_with (at_builtin; refine wpList_append_own _ rfl _ _ 24 rfl w.heap.size 3 n0 (.int .i64 0) 1 8 Try.underlying24 HI.out HZ0.out HZ1.out HZ2.out rfl (by decide) (.slice (some ⟨w.heap.size, 0, none⟩) 0 0) 0 [] rfl (World.ownsRow_made w #[] 0 (Nat.le_refl _) (Nat.zero_le _) rfl) ⟨b, off, none⟩ len cap (ivals .i64 ms) rfl (by unfold ivals; rw [List.length_map, HL2.out, Nat.mul_one]) (HCe.out _) (by unfold ivals; intro u hu; obtain ⟨n, _, rfl⟩ := List.mem_map.1 hu; rfl) (by unfold maxLen; omega) (by omega) (by simp) ?_; intro v' y1 hown hgrow hnil; rw [List.nil_append, Nat.zero_add] at hown; obtain ⟨g1, cap5, cur, rfl, hg1, hcur, HS⟩ := own_ints hown HL2.out HM0.out.fits (by omega); have q1 := heap_frozen hcur i; have k1 := own_cell HS hcur hi; have HSS := Lib.hid HS; have HCur := Lib.hid hcur; have HGr := Lib.hid hgrow; clear hown HS hcur hgrow)
  go_ret
  have hby : Below w.heap.size w y1 := ((Below.refl _ w).alloc (Nat.le_refl _) _).grown HGr.out (by simp) (fun k hk => by simp [Value.ownBlock] at hk; omega)
  exact ⟨g1, cap5, rfl, IntsAt.set HSS.out HCur.out hi HWV.out, hby.setCell (p := ⟨g1, i, none⟩) hg1 _⟩

theorem gb_len {w : World} {base : Nat} {e : TypeId} {size : Nat} {v : Value} {n m : Nat} {xs : List Value} {b : Option Nat} (h : GB w base e size v n xs b) (hn : n = m) : GB w base e size v m xs b := hn ▸ h
theorem emptyL_mem {g : Int → Bool} : ∀ k : Nat, ∀ {x : Int}, x ∈ emptyL g k → ∃ d : Nat, d < k ∧ x = (d : Int)
  | 0, _, h => by simp [emptyL] at h
  | k + 1, x, h => by
    rw [emptyL, List.mem_append] at h
    rcases h with h | h
    · obtain ⟨d, h1, h2⟩ := emptyL_mem k h
      exact ⟨d, by omega, h2⟩
    · split at h
      · simp at h
      · exact ⟨k, by omega, List.mem_singleton.1 h⟩
set_option maxRecDepth 100000 in
set_option maxHeartbeats 2000000 in
theorem xempty_any {w : World} {a : Option Addr} {b off len cap : Nat} {ms : List Int} (hm : IntsAt .i64 w.heap.size w a b off len ms) (k : Int) (hk : k ≤ 60) :
    Calls Try.prog 15 #[.slice a len cap, .int .i64 k] w fun e w' => ∃ ad c b', e = .returned (.slice (some ad) (emptyL (fun x => decide (x ∈ ms)) k.toNat).length c) ∧ (emptyL (fun x => decide (x ∈ ms)) k.toNat).length ≤ c ∧ IntsAt .i64 w'.heap.size w' (some ad) b' 0 (emptyL (fun x => decide (x ∈ ms)) k.toNat).length (emptyL (fun x => decide (x ∈ ms)) k.toNat) ∧ Below w.heap.size w w' := by
  obtain ⟨n0, hi, hz0, hz1, hz2⟩ := info_parts L09.Try.infoInt
  have HI := Lib.hid hi
  have HZ0 := Lib.hid hz0
  have HZ1 := Lib.hid hz1
  have HZ2 := Lib.hid hz2
  have b0 : Below w.heap.size w (w.alloc (.cells #[] 3)) := (Below.refl _ _).alloc (Nat.le_refl _) _
  have HB0 := Lib.hid b0
  have HM := Lib.hid hm
  clear hi hz0 hz1 hz2 hm b0
  go_enter Try.func15, Try.ntmps15
  go_wp2
  go_loopw [5, 6] (fun v i wr => ∃ (p : Nat) (bt : Option Nat) (ad : Addr) (ct : Nat), ((p : Int) ≤ k ∨ p = 0) ∧ i = .int .i64 p ∧ v = .slice (some ad) (emptyL (fun x => decide (x ∈ ms)) p).length ct ∧ Hid (GB wr w.heap.size 3 1 v (emptyL (fun x => decide (x ∈ ms)) p).length (L09.ints (emptyL (fun x => decide (x ∈ ms)) p)) bt) ∧ Hid (Below w.heap.size w wr)) (fun _ i _ => k.toNat - (intOf i).toNat)
  case atStart => exact ⟨0, none, _, _, .inr rfl, rfl, rfl, Lib.hid (gb_nil _ _ _ _ _), HB0⟩
  case round =>
    clear HB0
    obtain ⟨p, bt, ad, ct1, hp, rfl, rfl, HG, HB⟩ := hrel
    have zr := HB.out.size
    have hlp := emptyL_length (fun x => decide (x ∈ ms)) p
    by_cases hlt : (p : Int) < k
    · have CI := Lib.hid (xin_any (cap := cap) (HM.out.kept HB.out (Nat.le_refl _)) (p : Int))
      have HS : Hid (emptyL (fun x => decide (x ∈ ms)) (p + 1) = emptyL (fun x => decide (x ∈ ms)) p ++ if decide ((p : Int) ∈ ms) = true then [] else [(p : Int)]) := Lib.hid rfl
      generalize emptyL (fun x => decide (x ∈ ms)) p = l at *
      generalize decide ((p : Int) ∈ ms) = c at *
      cases c with
      | true =>
        have HS2 : Hid (emptyL (fun x => decide (x ∈ ms)) (p + 1) = l) := Lib.hid (by rw [HS.out, if_pos rfl, List.append_nil])
        clear HS
        go_wp2_with fail
        refine CI.out.mono ?_
        clear CI
        rintro e w' ⟨rfl, rfl⟩
        go_wp2
        go_roundw
        case rel => exact ⟨p + 1, bt, ad, ct1, by omega, by go_num, by rw [HS2.out], by rw [HS2.out]; exact HG, HB⟩
        case measure => simp [intOf]; omega
      | false =>
        have HS2 : Hid (emptyL (fun x => decide (x ∈ ms)) (p + 1) = l ++ [(p : Int)]) := Lib.hid (by rw [HS.out, if_neg (by simp)])
        clear HS
        go_wp2_with fail
        refine CI.out.mono ?_
        clear CI
        rintro e w' ⟨rfl, rfl⟩
        go_wp2_with (at_builtin; refine wpList_append_GB _ rfl _ _ 24 rfl w.heap.size 3 n0 (.int .i64 0) 1 8 Try.underlying24 HI.out HZ0.out HZ1.out HZ2.out rfl (by decide) _ _ _ bt rfl (HG.out.alloc _) ⟨wr.heap.size, 0, none⟩ 1 1 [.int .i64 (p : Int)] rfl rfl (cell_one _ _ _) (one_val rfl) (by decide) (by unfold maxLen; omega) (by omega) (by simp; omega) ?_; intro g5 cap5 w5 row5 hG5 hg5 hr5 hw5; have HG5 := Lib.hid hG5; have HB5 : Hid (Below w.heap.size w w5) := Lib.hid ((HB.out.alloc zr _).grown hg5 (by simp; omega) (fun q e => by rcases hr5 with hr5 | hr5; (· rw [hr5] at e; cases e); (· have := HG.out.lt q (by rw [← hr5]; exact e); omega))); clear hG5 hg5 hr5 hw5 HG)
        go_roundw
        case rel => exact ⟨p + 1, some g5, ⟨g5, 0, none⟩, cap5, by omega, by go_num, by rw [HS2.out, List.length_append]; rfl, by rw [HS2.out]; exact Lib.hid (by rw [List.length_append, L09.ints_snoc]; exact HG5.out), HB5⟩
        case measure => simp [intOf]; omega
    · have he : p = k.toNat := by omega
      rw [he] at HG ⊢
      have hwf : ∀ x ∈ emptyL (fun x => decide (x ∈ ms)) k.toNat, (Lit.int .i64 x).wf = true := fun x hx => by
        obtain ⟨d, hd, rfl⟩ := emptyL_mem _ hx
        exact wf_small d (by omega)
      obtain ⟨at3, ct3, bt3, et, hc3, _, _, hI⟩ := Gath.ints (k := .i64) HG.out.gath rfl hwf
      cases et
      have HI3 := Lib.hid hI
      clear hwf hI HG
      go_wp2
      go_ret
      exact ⟨ad, ct1, rfl, hc3, ⟨bt3, HI3.out⟩, HB.out⟩

/-- What the things from a on cut with a, those below b. -/
def rcS (ms : List Int) (F : Nat → Nat → Int) (a b : Nat) : Int := cuS ms ((rowOf b (above ((a : Int) + 1) (F a))).map (tag a))
theorem upTo_cut (ms : List Int) (n : Nat) (F : Nat → Nat → Int) (a : Nat) : cuS ms (upTo n F (a + 1)) = cuS ms (upTo n F a) + rcS ms F a n := by
  rw [upTo, cuS_append]; rfl
theorem rcS_zero (ms : List Int) (F : Nat → Nat → Int) (a : Nat) : ∀ b, b ≤ a + 1 → rcS ms F a b = 0
  | 0, _ => rfl
  | b + 1, h => by
    have ih := rcS_zero ms F a b (by omega)
    unfold rcS at ih ⊢
    have h0 : above ((a : Int) + 1) (F a) b = 0 := if_pos (by omega)
    rw [rowOf_succ, if_neg (by omega), List.append_nil]
    exact ih
theorem rcS_succ {n : Nat} {ms : List Int} {F : Nat → Nat → Int} (ht : Tab n F) {a b : Nat} (h : a < b) : rcS ms F a (b + 1) = rcS ms F a b + if ms.getD a 0 = ms.getD b 0 then 0 else F a b := by
  have h0 : above ((a : Int) + 1) (F a) b = F a b := if_neg (by omega)
  unfold rcS
  rw [rowOf_succ, List.map_append, cuS_append, h0]
  congr 1
  by_cases hf : 0 < F a b
  · rw [if_pos hf]
    simp [cuS, cu1, tag]
  · have := ht.lo a b
    have h2 : F a b = 0 := by omega
    rw [if_neg hf, h2]
    simp [cuS]
theorem cut_bd {n : Nat} {ms : List Int} {F : Nat → Nat → Int} (ht : Tab n F) (hn : n ≤ 30) {a b : Nat} (ha : a ≤ 30) (hb : b ≤ 30) : 0 ≤ cuS ms (upTo n F a) + rcS ms F a b ∧ cuS ms (upTo n F a) + rcS ms F a b ≤ 2000000000000000 := by
  have h1 := upTo_len n F a
  have h2 : a * n ≤ 30 * 30 := Nat.mul_le_mul ha hn
  have h3 := rowOf_length b (above ((a : Int) + 1) (F a))
  have h4 := cuS_bd ms (upTo n F a ++ (rowOf b (above ((a : Int) + 1) (F a))).map (tag a)) (fun x hx => by
    rcases List.mem_append.1 hx with hx | hx
    · obtain ⟨p, q, _, _, _, e, _⟩ := mem_upTo _ hx
      rw [e]; exact ⟨ht.lo p q, ht.hi p q⟩
    · obtain ⟨p, hp, rfl⟩ := List.mem_map.1 hx
      obtain ⟨q, h1, h2, rfl⟩ := mem_rowOf.1 hp
      show 0 ≤ above ((a : Int) + 1) (F a) q ∧ above ((a : Int) + 1) (F a) q ≤ _
      unfold above
      split
      · omega
      · exact ⟨ht.lo a q, ht.hi a q⟩)
  rw [cuS_append, List.length_append, List.length_map] at h4
  unfold rcS
  omega
section
variable {W W' : World} {X : XD} {lo : Nat} {ws : List Int} {F : Nat → Nat → Int}
set_option maxRecDepth 100000 in
set_option maxHeartbeats 2000000 in
theorem xcut_any (h : IsX W X lo ws F) (hn30 : ws.length ≤ 30) {B : Nat} {a : Option Addr} {b off len cap : Nat} {ms : List Int} (hm : IntsAt .i64 B W a b off len ms) (hB : B ≤ W.heap.size) (hl : len = ws.length) :
    Calls Try.prog 22 #[X.val ws.length, .slice a len cap] W fun e w' => e = .returned (.int .i64 (cuS ms (edgesD ws.length F))) ∧ Below W.heap.size W w' := by
  have hal : Below W.heap.size W (W.alloc (.cells #[.slice X.wa ws.length X.wc, .slice X.ra ws.length X.rc] 29)) := (Below.refl _ _).alloc (Nat.le_refl _) _
  have hXd : (W.alloc (.cells #[.slice X.wa ws.length X.wc, .slice X.ra ws.length X.rc] 29)).heap[W.heap.size]? = some (.cells #[.slice X.wa ws.length X.wc, .slice X.ra ws.length X.rc] 29 (0, 0)) := heap_new (w := W) _ rfl
  have HXD := Lib.hid hXd
  have HA := Lib.hid hal
  have HX := Lib.hid h
  have HX0 := Lib.hid (h.below hal).x0
  have HM := Lib.hid (hm.kept (hal.mono hB) (Nat.le_refl _))
  have HTab := Lib.hid h.tab
  have z0 : W.heap.size < (W.alloc (.cells #[.slice X.wa ws.length X.wc, .slice X.ra ws.length X.rc] 29)).heap.size := by simp
  subst hl
  have HN : Hid (ws.length = ws.length) := Lib.hid rfl
  have HAT := Lib.hid (fun (W' : World) (hb : Below (W.alloc (.cells #[.slice X.wa ws.length X.wc, .slice X.ra ws.length X.rc] 29)).heap.size (W.alloc (.cells #[.slice X.wa ws.length X.wc, .slice X.ra ws.length X.rc] 29)) W') (p : Nat) (hp : p < ws.length) => ((h.below hal).below hb).x0.at_ hp)
  unfold XD.val
  generalize ws.length = n at *
  clear h hm hal hXd
  go_enter Try.func22, Try.ntmps22
  go_upto_region 1 with fail
  generalize W.alloc (.cells #[.slice X.wa n X.wc, .slice X.ra n X.rc] 29) = w1 at *
  go_wp2
  go_loopw [5, 6] (fun t i wr => ∃ p : Nat, i = .int .i64 p ∧ t = .int .i64 (cuS ms (upTo n F p)) ∧ p ≤ n ∧ Hid (Below w1.heap.size w1 wr)) (fun _ i _ => n - (intOf i).toNat)
  case atStart => exact ⟨0, rfl, rfl, Nat.zero_le _, Lib.hid (Below.refl _ _)⟩
  case round =>
    obtain ⟨p, rfl, rfl, hp, HB⟩ := hrel
    by_cases hlt : p < n
    · have HE : Hid (cuS ms (upTo n F (p + 1)) = cuS ms (upTo n F p) + rcS ms F p n) := Lib.hid (upTo_cut ms n F p)
      have HZ : Hid (cuS ms (upTo n F p) = cuS ms (upTo n F p) + rcS ms F p (p + 1)) := Lib.hid (by rw [rcS_zero ms F p _ (Nat.le_refl _)]; omega)
      have HBD := Lib.hid (fun q hq => cut_bd (ms := ms) HTab.out hn30 (a := p) (b := q) (by omega) hq)
      have HRS := Lib.hid (fun q (hq : p < q) => rcS_succ (ms := ms) HTab.out hq)
      generalize cuS ms (upTo n F p) = t0 at *
      generalize rcS ms F p = rf at *
      go_wp2
      go_loopw [5, 7] (fun t i wr2 => ∃ q : Nat, i = .int .i64 q ∧ t = .int .i64 (t0 + rf q) ∧ p < q ∧ q ≤ n ∧ Hid (Below w1.heap.size w1 wr2)) (fun _ i _ => n - (intOf i).toNat)
      case atStart => exact ⟨p + 1, by go_num, congrArg _ HZ.out, by omega, by omega, HB⟩
      case round =>
        clear HB
        obtain ⟨q, rfl, rfl, hpq, hq, HB⟩ := hrel
        by_cases hlt2 : q < n
        · have hI := HM.out.kept HB.out (Nat.le_trans hB HA.out.size)
          have c1 := hI.cell p hlt
          have c2 := hI.cell q hlt2
          obtain rfl : a = some ⟨b, off, none⟩ := HM.out.addr.resolve_left (by omega)
          obtain ⟨era, r1, r2⟩ := HAT.out wr HB.out p hlt
          have r3 := r2 q hlt2
          have d1 : wr.cell? ⟨W.heap.size, 1, none⟩ = some (.slice (some ⟨X.rb, 0, none⟩) n X.rc) := by rw [← era]; exact heap_cell (heap_below HXD.out HB.out z0) rfl
          have hS := HRS.out q hpq
          have hb1 := HBD.out q (by omega)
          have hb2 := HBD.out (q + 1) (by omega)
          rw [hS] at hb2
          have HS := Lib.hid hS
          clear hS hI r2 era
          generalize ms.getD p 0 = y at *
          generalize ms.getD q 0 = z at *
          generalize F p q = x at *
          generalize rf q = u at *
          by_cases hyz : y = z
          · have HS2 : Hid (rf (q + 1) = u) := Lib.hid (by rw [HS.out, if_pos hyz]; omega)
            subst hyz
            clear hb1 hb2 HS
            go_wp2
            go_quiet (fail)
            go_wp2
            go_roundw
            case rel => exact ⟨q + 1, by go_num, by rw [HS2.out], by omega, by omega, Lib.hid (HB.out.trans (show Below w1.heap.size _ (World.drewN _ _) from ⟨rfl, rfl, rfl, Nat.le_refl _, fun _ _ => rfl⟩))⟩
            case measure => simp [intOf]; omega
          · have HS2 : Hid (rf (q + 1) = u + x) := Lib.hid (by rw [HS.out, if_neg hyz])
            have hd : (y == z) = false := by simpa using hyz
            rw [if_neg hyz] at hb2
            have hw : IntKind.i64.wrap (t0 + u + x) = t0 + u + x := IntWalk.i64_in _ (by omega)
            clear hb1 hb2 HS hyz
            go_wp2
            go_quiet (fail)
            have e1 : (World.drewN wr nq).cell? ⟨W.heap.size, 1, none⟩ = some (.slice (some ⟨X.rb, 0, none⟩) n X.rc) := d1
            have e2 : (World.drewN wr nq).cell? ⟨X.rb, p, none⟩ = some (.slice (some ⟨X.rows p, 0, none⟩) n n) := r1
            have e3 : (World.drewN wr nq).cell? ⟨X.rows p, q, none⟩ = some (.int .i64 x) := r3
            go_wp2
            go_roundw
            case rel => exact ⟨q + 1, by go_num, by rw [HS2.out]; congr 1; omega, by omega, by omega, Lib.hid (HB.out.trans (show Below w1.heap.size _ (World.drewN _ _) from ⟨rfl, rfl, rfl, Nat.le_refl _, fun _ _ => rfl⟩))⟩
            case measure => simp [intOf]; omega
        · obtain rfl : q = n := by omega
          go_wp2
          go_roundw
          case rel => exact ⟨p + 1, by go_num, congrArg _ HE.out.symm, by omega, HB⟩
          case measure => simp [intOf]; omega
    · obtain rfl : p = n := by omega
      go_wp2
      go_ret
      exact ⟨rfl, HA.out.trans (HB.out.mono HA.out.size)⟩
end
end Go.Proofs.Ytjpgkocffceeoaa
