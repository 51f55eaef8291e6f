/- Contracts: All; List: all tokens of a text, or its fault. -/
import Derived.Test.YtdobpgakmonnbaaDoorToH
import Derived.Test.YtdobpgakmonnbaaDoorBg
set_option linter.unusedVariables false
set_option linter.unusedSectionVars false
set_option linter.unusedSimpArgs false
namespace Go.Proofs.YtdobpgakmonnbaaDoor.Tok
open Go.RowKit Go.Shelf

attribute [local go_sem] Oper.semAt_some

theorem all_any (s : ByteArray) (w : World) : Calls Tryd.prog 10 #[.string s] w fun e w' => e = .returned (.func (.func 14) #[] #[.pointer (some ⟨w.heap.size, 0, none⟩)]) ∧ w' = w.alloc (.cells #[.string s] 9) := by
  go_enter Tryd.func10, Tryd.ntmps10
  go_wp2
  go_ret
  exact ⟨rfl, rfl⟩
theorem Tryd.infoTok : (Tryd.prog.info? 32).map (fun i => (i.zero, i.size, i.bytes)) = some (some (.agg #[.int .i64 0, .int .i64 0, .string ⟨#[]⟩, .int .i64 0]), 4, 40) := by kernel_rfl
def flatT (L : List TkE) : List Value := L.flatMap (fun x => [.int .i64 (x.kind : Int), .int .i64 (x.at_ : Int), .string x.text, .int .i64 x.n])
theorem flatT_snoc (L : List TkE) (x : TkE) : flatT (L ++ [x]) = flatT L ++ [.int .i64 (x.kind : Int), .int .i64 (x.at_ : Int), .string x.text, .int .i64 x.n] := by simp [flatT]
def zF : Value := .agg #[.int .i64 0, .int .i64 0]
def ListP (s : ByteArray) (w : World) (e : Ending) (w' : World) : Prop := Below w.heap.size w w' ∧ match toksF (s.size + 1) 0 s.data.toList with
  | .error (x, p) => e = .returned (.tuple #[.slice none 0 0, .agg #[.int .i64 x, .int .i64 (p : Int)]])
  | .ok L => ∃ v, e = .returned (.tuple #[v, zF]) ∧ Gath w' w.heap.size 32 4 v L.length (flatT (L.map TkE.of))
/-- Once all of it has come. -/
theorem list_done {s : ByteArray} {D : List TkE} (hD : allD (s.size + 1) 0 s.data.toList = D) (h : ∀ x ∈ D, x.e = 0) : ∃ L, toksF (s.size + 1) 0 s.data.toList = .ok L ∧ D = L.map TkE.of := by
  have h1 := all_toks (s.size + 1) 0 s.data.toList (by simp)
  rw [hD] at h1
  cases ht : toksF (s.size + 1) 0 s.data.toList with
  | error x =>
    rw [ht] at h1
    obtain ⟨x, p⟩ := x
    obtain ⟨pre, h2, h3⟩ := h1
    have := h (.bad x p) (by rw [h2]; simp)
    have he : x ≠ 0 := by
      have : ∀ f a s, toksF f a s = .error (x, p) → x ≠ 0 := fun f => by
        induction f with
        | zero => intro a s h; cases h
        | succ f ih =>
          intro a s h
          rw [toksF_succ] at h
          split at h
          · rename_i e hf
            cases h
            rcases first_err hf with rfl | rfl <;> decide
          · split at h
            · cases h
            · split at h
              · rename_i e hf
                cases h
                exact ih _ _ hf
              · cases h
      exact this _ _ _ ht
    exact absurd this he
  | ok L =>
    rw [ht] at h1
    exact ⟨L, rfl, h1⟩
/-- Once a fault has come. -/
theorem list_stop {s : ByteArray} {D pre : List TkE} {x : TkE} (hD : allD (s.size + 1) 0 s.data.toList = D) (hp : pre ++ [x] <+: D) (h0 : ∀ y ∈ pre, y.e = 0) (hx : x.e ≠ 0) : toksF (s.size + 1) 0 s.data.toList = .error (x.e, x.ea) := by
  have h1 := all_toks (s.size + 1) 0 s.data.toList (by simp)
  rw [hD] at h1
  cases ht : toksF (s.size + 1) 0 s.data.toList with
  | error y =>
    rw [ht] at h1
    obtain ⟨y, p⟩ := y
    obtain ⟨pr, h2, h3⟩ := h1
    obtain ⟨t, ht2⟩ := hp
    rw [h2] at ht2
    have hx2 : x ∉ pr := fun hm => hx (h3 x hm)
    have hm : x ∈ pr ++ [.bad y p] := by rw [← ht2]; simp
    rcases List.mem_append.1 hm with hm | hm
    · exact absurd hm hx2
    · rw [List.mem_singleton] at hm
      subst hm
      rfl
  | ok L =>
    rw [ht] at h1
    simp only at h1
    have hm : x ∈ D := hp.subset (by simp)
    rw [h1] at hm
    obtain ⟨y, _, rfl⟩ := List.mem_map.1 hm
    exact absurd rfl hx
theorem cell_row (W : World) (l : List Value) (t : TypeId) : ∀ j u, l[j]? = some u → (W.alloc (.cells l.toArray t)).cell? ((⟨W.heap.size, 0, none⟩ : Addr).add j) = some u := fun j u h => by
  have := heap_cell (heap_new (w := W) (.cells l.toArray t) rfl) (i := j) (v := u) (by simpa using h)
  have e : (⟨W.heap.size, 0, none⟩ : Addr).add j = ⟨W.heap.size, j, none⟩ := by
    unfold Addr.add
    by_cases h : j = 0
    · subst h; simp
    · simp [h]
  rw [e]
  exact this
set_option maxRecDepth 100000 in
set_option maxHeartbeats 4000000 in
theorem list_any (s : ByteArray) (hs : s.size ≤ 60000) (w : World) (hv : VarR w) (hw2 : 2 < w.heap.size) : Calls Tryd.prog 6 #[.string s] w (ListP s w) := by
  obtain ⟨i0, hi, hz0, hz1, hz2⟩ := info_parts Tryd.infoTok
  have HI := Lib.hid hi
  have HZ0 := Lib.hid hz0
  have HZ1 := Lib.hid hz1
  have HZ2 := Lib.hid hz2
  clear hi hz0 hz1 hz2
  obtain ⟨D, hD⟩ : ∃ D, allD (s.size + 1) 0 s.data.toList = D := ⟨_, rfl⟩
  have hlen : D.length ≤ 60001 := by
    have := allD_length (s.size + 1) 0 s.data.toList
    rw [hD] at this
    simp at this
    omega
  have HD := Lib.hid hD
  clear hD
  refine (callsIn_wide (n := 3)).1 ?_
  refine callsIn_of_wp_marks Tryd.func6 rfl trivial ?_ rfl
  simp only [Tryd.ntmps6, List.size_toArray, List.length_cons, List.length_nil, Nat.reduceAdd, Nat.reduceSub, Array.replicate_succ, Array.replicate_zero, List.push_toArray, List.append_toArray, List.nil_append, List.cons_append]
  refine wpIn_wide.2 ?_
  go_wp2_with (go_at_call 10; refine (all_any s _).mono ?_; rintro e w1 ⟨rfl, rfl⟩)
  have hb1 : Below w.heap.size w ((((w.alloc (.cells #[.slice none 0 0] 26)).alloc (.cells #[.int .i64 0, .int .i64 0] 28)).alloc (.cells #[.slice none 0 0] 26)).alloc (.cells #[.string s] 9)) := ((((Below.refl _ w).alloc (Nat.le_refl _) _).alloc (by simp) _).alloc (by simp; omega) _).alloc (by simp; omega) _
  have q0 : ((((w.alloc (.cells #[.slice none 0 0] 26)).alloc (.cells #[.int .i64 0, .int .i64 0] 28)).alloc (.cells #[.slice none 0 0] 26)).alloc (.cells #[.string s] 9)).heap[w.heap.size]? = some (.cells #[.slice none 0 0] 26 (0, 0)) := heap_alloc (heap_alloc (heap_alloc (heap_new _ rfl) _) _) _
  have q1 : ((((w.alloc (.cells #[.slice none 0 0] 26)).alloc (.cells #[.int .i64 0, .int .i64 0] 28)).alloc (.cells #[.slice none 0 0] 26)).alloc (.cells #[.string s] 9)).heap[w.heap.size + 1]? = some (.cells #[.int .i64 0, .int .i64 0] 28 (0, 0)) := heap_alloc (heap_alloc (heap_new _ (by simp)) _) _
  have q2 : ((((w.alloc (.cells #[.slice none 0 0] 26)).alloc (.cells #[.int .i64 0, .int .i64 0] 28)).alloc (.cells #[.slice none 0 0] 26)).alloc (.cells #[.string s] 9)).heap[w.heap.size + 1 + 1]? = some (.cells #[.slice none 0 0] 26 (0, 0)) := heap_alloc (heap_new _ (by simp)) _
  have q3 : ((((w.alloc (.cells #[.slice none 0 0] 26)).alloc (.cells #[.int .i64 0, .int .i64 0] 28)).alloc (.cells #[.slice none 0 0] 26)).alloc (.cells #[.string s] 9)).heap[w.heap.size + 1 + 1 + 1]? = some (.cells #[.string s] 9 (0, 0)) := heap_new _ (by simp)
  have hz1 : ((((w.alloc (.cells #[.slice none 0 0] 26)).alloc (.cells #[.int .i64 0, .int .i64 0] 28)).alloc (.cells #[.slice none 0 0] 26)).alloc (.cells #[.string s] 9)).heap.size = w.heap.size + 1 + 1 + 1 + 1 := by simp
  generalize ((((w.alloc (.cells #[.slice none 0 0] 26)).alloc (.cells #[.int .i64 0, .int .i64 0] 28)).alloc (.cells #[.slice none 0 0] 26)).alloc (.cells #[.string s] 9)) = w1 at *
  have hv1 := hv.on hw2 hb1
  obtain ⟨A, hA⟩ : ∃ A, w.heap.size = A := ⟨_, rfl⟩
  rw [hA] at hb1 q0 q1 q2 q3 hz1 hw2 ⊢
  have HA := Lib.hid hA
  clear hA
  have HSQ := Lib.hid (all_seq (s := s) (by omega) (w := w1) (Bx := A + 1 + 1 + 1) (n₀ := A) (lo := A + 1 + 1 + 1) (up := A + 1 + 1 + 1 + 1) (heap_cell q3 rfl) (Nat.le_refl _) (by omega) (by omega) hv1 hw2 (by omega) 2)
  rw [HD.out] at HSQ
  have hB0 : Bg (A + 1 + 1 + 1 + 1) (A + 1 + 1) 26 32 4 [(A, 26, #[.slice none 0 0]), (A + 1, 28, #[.int .i64 0, .int .i64 0])] A w 0 (flatT []) w1 (.slice none 0 0) :=
    ⟨q2, .inl ⟨rfl, rfl, none, rfl⟩, fun x hx => by
      simp only [List.mem_cons, List.not_mem_nil, or_false] at hx
      rcases hx with rfl | rfl
      · exact q0
      · exact q1, hb1, by omega, fun g e => by simp [Value.ownBlock] at e⟩
  have HB0 := Lib.hid hB0
  have HB1 := Lib.hid hb1
  clear hB0 hb1 q0 q1 q2 q3 hv1 hv
  refine (wpIn_wide (n := 3)).1 ?_
  refine wpIn_rangeFunc_seqF rfl (by omega) (gf := 14) (lb := #[.pointer (some ⟨A + 1 + 1 + 1, 0, none⟩)]) rfl trivial (enters_of Tryd.func14 (by kernel_rfl) rfl) HSQ.out (by omega) (by omega) (Below.refl _ _) (fun _ => rfl)
    (fun pre W => (∀ x ∈ pre, x.e = 0) ∧ ∃ v, Bg (A + 1 + 1 + 1 + 1) (A + 1 + 1) 26 32 4 [(A, 26, #[.slice none 0 0]), (A + 1, 28, #[.int .i64 0, .int .i64 0])] A w pre.length (flatT pre) W v)
    (fun c pre W => c = .ret ∧ ∃ ini x, pre = ini ++ [x] ∧ (∀ y ∈ ini, y.e = 0) ∧ x.e ≠ 0 ∧ W.heap[A]? = some (.cells #[.slice none 0 0] 26 (0, 0)) ∧ W.heap[A + 1]? = some (.cells #[.int .i64 x.e, .int .i64 (x.ea : Int)] 28 (0, 0)) ∧ Below A w W)
    (fun pre X Y row hs hg hr => ⟨hs.1, hs.2.elim fun v hB => ⟨v, hB.turned (by omega) hg (fun r e => ⟨by have := (hr r e).1; omega, (hr r e).2⟩)⟩⟩)
    (fun c pre X Y row hs hg hr => by
      obtain ⟨hc, ini, x, e1, e2, e3, e4, e5, e6⟩ := hs
      have hne : ∀ (k : Nat) (o : Obj), X.heap[k]? = some o → o.isCells = true → some k ≠ row := fun k o ho hc e => by
        obtain ⟨_, o', ho', hc'⟩ := hr k e.symm
        rw [ho] at ho'; cases ho'; rw [hc] at hc'; cases hc'
      exact ⟨hc, ini, x, e1, e2, e3, heap_kept e4 hg (hne _ _ e4 rfl), heap_kept e5 hg (hne _ _ e5 rfl), e6.grown hg (by have := e6.size; have := HA.out; omega) (fun r e => by have := (hr r e).1; omega)⟩)
    ⟨fun x hx => by simp at hx, _, HB0.out⟩
    (fun x a' W => ∃ p q, A + 1 + 1 + 1 + 1 ≤ q ∧ W.heap[p]? = some (.cells #[.int .i64 (x.kind : Int), .int .i64 (x.at_ : Int), .string x.text, .int .i64 x.n] 32 (0, 0)) ∧ W.heap[q]? = some (.cells #[.int .i64 x.e, .int .i64 (x.ea : Int)] 28 (0, 0)) ∧ a' = { tmps := #[.string s, undef, .pointer (some ⟨A, 0, none⟩), .pointer (some ⟨A + 1, 0, none⟩), .pointer (some ⟨A + 1 + 1, 0, none⟩), .pointer (some ⟨p, 0, none⟩), .pointer (some ⟨q, 0, none⟩), .string s, .func (.func 14) #[] #[.pointer (some ⟨A + 1 + 1 + 1, 0, none⟩)], wfTok x.kind x.at_ x.text x.n, .agg #[.int .i64 x.e, .int .i64 (x.ea : Int)], undef, undef, undef, undef, undef, undef, undef, undef, undef, undef], defers := [] })
    (fun x a' W l o o' hs hl ho hc => by
      obtain ⟨p, q, h1, h2, h3, h4⟩ := hs
      have hne : ∀ (k : Nat) (u : Obj), W.heap[k]? = some u → u.isCells = true → k ≠ l := fun k u hu hc' e => by
        subst e; rw [ho] at hu; cases hu; rw [hc] at hc'; cases hc'
      exact ⟨p, q, h1, (World.putObj_heap_other (hne _ _ h2 rfl)).trans h2, (World.putObj_heap_other (hne _ _ h3 rfl)).trans h3, h4⟩) ?assign ?body ?done ?stop
  case assign =>
    rintro l pre x A0 W K ⟨hpe, v, hB⟩ hbW hK
    have hzW := hbW.size
    have hz0 := hB.size
    obtain ⟨xk, xa, xt, xn, xe, xea⟩ := x
    unfold encT wfTok
    gi_wp2
    exact hK _ _ (((Below.refl _ W).alloc (Nat.le_refl _) _).alloc (by simp) _) ⟨W.heap.size, W.heap.size + 1, by omega, heap_alloc (heap_new _ rfl) _, heap_new _ (by simp), rfl⟩
  case body =>
    rintro l u pre x a' A0 W ⟨hpe, v, hB⟩ hzA hbW hu1 hu2 ⟨p, q, hq, hxp, hxq, rfl⟩ hpre
    have hpl : pre.length + 1 ≤ 60001 := by
      have := hpre.length_le
      simp at this
      omega
    have hBW := hB.on (by omega) hbW
    obtain ⟨a6, cap6, rfl⟩ := hBW.row.slice
    have c0 := hBW.box.cell
    have f0 := hBW.box.frozen
    obtain ⟨xk, xa, xt, xn, xe, xea⟩ := x
    simp only at hxp hxq ⊢
    have d0 := heap_cell hxq (i := 0) rfl
    have d1 := heap_cell hxq (i := 1) rfl
    have p0 := heap_cell hxp (i := 0) rfl
    have p1 := heap_cell hxp (i := 1) rfl
    have p2 := heap_cell hxp (i := 2) rfl
    have p3 := heap_cell hxp (i := 3) rfl
    simp only [List.getElem_toArray, List.getElem_cons_zero, List.getElem_cons_succ] at d0 d1 p0 p1 p2 p3
    have hlt := hB.lt
    have HB := Lib.hid hBW
    have HPe := Lib.hid hpe
    have HBw := Lib.hid hbW
    have HLt := Lib.hid hlt
    have HPre := Lib.hid hpre
    have hzW := hbW.size
    have hz0 := hB.size
    clear hB hBW hpe hbW hlt hpre
    by_cases he : xe = 0
    · subst he
      have hbs : ∀ x ∈ [(A, 26, #[Value.slice none 0 0]), (A + 1, 28, #[Value.int .i64 0, .int .i64 0])], x.1 ≠ A + 1 + 1 ∧ x.1 < A + 1 + 1 + 1 + 1 := fun x hx => by
        simp only [List.mem_cons, List.not_mem_nil, or_false] at hx
        rcases hx with rfl | rfl <;> exact ⟨by dsimp only; omega, by dsimp only; omega⟩
      have HBs := Lib.hid hbs
      clear hbs
      gi_wp2_with (gi_at_builtin; refine wpListIn_append_gathW _ rfl _ _ 26 rfl (A + 1 + 1 + 1 + 1) 32 i0 (.agg #[.int .i64 0, .int .i64 0, .string ⟨#[]⟩, .int .i64 0]) 4 40 Tryd.underlying26 HI.out HZ0.out HZ1.out HZ2.out rfl (by decide) _ _ _ rfl (gath_kept HB.out.row (World.grownBy_alloc W _ none) (fun r e => by cases e)) ⟨W.heap.size, 0, none⟩ 1 1 [.int .i64 (xk : Int), .int .i64 (xa : Int), .string xt, .int .i64 xn] rfl rfl (cell_row W _ _) (fun u hu => by simp at hu; rcases hu with rfl | rfl | rfl | rfl <;> rfl) (by decide) (by unfold maxLen; omega) (by omega) (by simp; omega) ?_; intro v' w3 row hown hgrow hrow; obtain ⟨g5, cap5, rfl⟩ := ownsRow_succ hown; obtain ⟨hb1, hB1, hk1, hl1, hm1, hm2⟩ := HB.out.app (z := A0.heap.size) (u := u) (by omega) (by omega) (by omega) HBs.out (by omega) HLt.out (by omega) hown ⟨_, _, rfl⟩ hgrow hrow; have c5 := hb1.cell; have f5 := hb1.frozen)
      refine ⟨hk1.from _, ⟨hl1, hm1 _ _ (.inr (by omega)) (by omega), hm2⟩, ?_, .slice (some ⟨g5, 0, none⟩) (pre.length + 1) cap5, ?_⟩
      · intro x hx
        rcases List.mem_append.1 hx with hx | hx
        · exact HPe.out x hx
        · rw [List.mem_singleton] at hx; subst hx; rfl
      · rw [List.length_append, flatT_snoc]
        exact hB1
    · have heb : (xe != 0) = true := by simpa using he
      have hoA := HB.out.oth _ (List.mem_cons_self ..)
      have hoF := HB.out.oth _ (List.mem_cons_of_mem _ (List.mem_cons_self ..))
      simp only at hoA hoF
      gi_wp2_with fail
      refine region_round_T (fun X => X.cell? ⟨q, 0, none⟩ = some (.int .i64 xe) ∧ X.cell? ⟨q, 1, none⟩ = some (.int .i64 (xea : Int))) (fun _ => true) rfl (by kernel_rfl) rfl ?_
      change AnyT _ _ _ _ _ _ _ _ 3 _ _ (World.drew _)
      refine AnyT.take (i := 0) (v := .agg #[.int .i64 xe, .int .i64 (xea : Int)]) rfl rfl (by kernel_rfl) (by kernel_rfl) (by kernel_rfl) (by kernel_rfl) (by kernel_rfl) (fun _ _ _ h => h) (by kernel_rfl) (fun x hx => by obtain ⟨c1, c2⟩ := hx; go_simp) (fun _ => rfl) ⟨d0, d1⟩ ?_
      try simp only [List.getElem_toArray, List.getElem_cons_zero, List.getElem_cons_succ, Act.put, List.setIfInBounds_toArray, List.set_cons_zero, List.set_cons_succ]
      have hX1 := heap_set hoA 0 (.slice none 0 0)
      have hX2 := heap_other hoF (V := A) (by omega) 0 (.slice none 0 0)
      have hX3 := heap_other hxq (V := A) (by omega) 0 (.slice none 0 0)
      have hbX : Below A W (W.setCell ⟨A, 0, none⟩ (.slice none 0 0)) := (Below.refl _ _).setCell (p := ⟨A, 0, none⟩) (Nat.le_refl _) _
      refine AnyT.ready (rs := [1]) (by kernel_rfl) (by simp) (ReadyT.cons rfl (fun K hK => ?_) ReadyT.nil)
      have c5 : W.drew.cell? ⟨A, 0, none⟩ = some (.slice none 0 0) := heap_cell hoA rfl
      have f5 : W.drew.frozen? ⟨A, 0, none⟩ = false := heap_frozen hoA 0
      go_simp
      refine hK _ _ (fun _ => ⟨heap_cell hX3 rfl, heap_cell hX3 rfl⟩) ?_
      clear hK K c5 f5
      try simp only [List.getElem_toArray, List.getElem_cons_zero, List.getElem_cons_succ, Act.put, List.setIfInBounds_toArray, List.set_cons_zero, List.set_cons_succ]
      refine AnyT.ready (rs := [2]) (by kernel_rfl) (by simp) (ReadyT.cons rfl (fun K hK => ?_) ReadyT.nil)
      have c5 := heap_cell hoF (i := 0) rfl
      have c6 := heap_cell hoF (i := 1) rfl
      simp only [List.getElem_toArray, List.getElem_cons_zero, List.getElem_cons_succ] at c5 c6
      have f5 := heap_frozen hoF 0
      have f6 := heap_frozen hoF 1
      go_simp
      have hX4 := heap_set (heap_set hX2 0 (.int .i64 xe)) 1 (.int .i64 (xea : Int))
      have hX5 := heap_other (heap_other hX1 (V := A + 1) (by omega) 0 (.int .i64 xe)) (V := A + 1) (by omega) 1 (.int .i64 (xea : Int))
      have hX6 := heap_other (heap_other hX3 (V := A + 1) (by omega) 0 (.int .i64 xe)) (V := A + 1) (by omega) 1 (.int .i64 (xea : Int))
      refine hK _ _ (fun _ => ⟨heap_cell hX6 rfl, heap_cell hX6 rfl⟩) ?_
      clear hK K c5 f5 c6 f6
      try simp only [List.getElem_toArray, List.getElem_cons_zero, List.getElem_cons_succ, Act.put, List.setIfInBounds_toArray, List.set_cons_zero, List.set_cons_succ]
      refine AnyT.done (by kernel_rfl) ?_ _
      have hT : Turned (fun k => k = A ∨ k = A + 1) W (((W.setCell ⟨A, 0, none⟩ (.slice none 0 0)).setCell ⟨A + 1, 0, none⟩ (.int .i64 xe)).setCell ⟨A + 1, 1, none⟩ (.int .i64 (xea : Int))).drew :=
        ⟨rfl, rfl, rfl, by simp [World.setCell], fun k hk hn => by
          show (((W.setCell ⟨A, 0, none⟩ (.slice none 0 0)).setCell ⟨A + 1, 0, none⟩ (.int .i64 xe)).setCell ⟨A + 1, 1, none⟩ (.int .i64 (xea : Int))).heap[k]? = W.heap[k]?
          rw [Below.heap_setCell _ ⟨A + 1, 1, none⟩ _ k (fun e => hn (.inr e)), Below.heap_setCell _ ⟨A + 1, 0, none⟩ _ k (fun e => hn (.inr e)), Below.heap_setCell _ ⟨A, 0, none⟩ _ k (fun e => hn (.inl e))]⟩
      have HT := Lib.hid hT
      have HKo : Hid (KeepsOthers W (((W.setCell ⟨A, 0, none⟩ (.slice none 0 0)).setCell ⟨A + 1, 0, none⟩ (.int .i64 xe)).setCell ⟨A + 1, 1, none⟩ (.int .i64 (xea : Int))).drew) := Lib.hid ((((KeepsOthers.setCell _ _ _).trans (KeepsOthers.setCell _ _ _)).trans (KeepsOthers.setCell _ _ _)).trans (KeepsOthers.drew _))
      have HX := Lib.hid (And.intro hX4 hX5)
      clear hT hX1 hX2 hX3 hX4 hX5 hX6 hbX hoA hoF
      gi_wp2
      have hbA : Below A W (((W.setCell ⟨A, 0, none⟩ (.slice none 0 0)).setCell ⟨A + 1, 0, none⟩ (.int .i64 xe)).setCell ⟨A + 1, 1, none⟩ (.int .i64 (xea : Int))).drew := ⟨HT.out.os, HT.out.tape, HT.out.output, HT.out.size, fun k hk => HT.out.block k (by omega) (fun e => by rcases e with e | e <;> omega)⟩
      exact ⟨HKo.out.from _, ⟨hbA, ⟨HT.out.size, fun k k1 k2 => HT.out.block k (by omega) (fun e => by rcases e with e | e <;> omega)⟩, ⟨HT.out.size, fun k k1 k2 => HT.out.block k (by omega) (fun e => by rcases e with e | e <;> omega)⟩⟩, rfl, pre, ⟨xk, xa, xt, xn, xe, xea⟩, rfl, HPe.out, he, HX.out.2, HX.out.1, HB.out.below.trans hbA⟩
  case done =>
    rintro C W0 W hC ⟨hpe, v, hB⟩ hbW hK
    have hBW := hB.on (by omega) hbW
    obtain ⟨a6, cap6, rfl⟩ := hBW.row.slice
    have c0 := hBW.box.cell
    have hoA := hBW.oth _ (List.mem_cons_self ..)
    have hoF := hBW.oth _ (List.mem_cons_of_mem _ (List.mem_cons_self ..))
    simp only at hoA hoF
    have k0 := heap_cell hoA (i := 0) rfl
    have k1 := heap_cell hoF (i := 0) rfl
    have k2 := heap_cell hoF (i := 1) rfl
    simp only [List.getElem_toArray, List.getElem_cons_zero, List.getElem_cons_succ] at k0 k1 k2
    have f0 := heap_frozen hoA 0
    have f1 := heap_frozen hoF 0
    have f2 := heap_frozen hoF 1
    have HB := Lib.hid hBW
    have HK := Lib.hid hK
    obtain ⟨L, hL, hDL⟩ := list_done HD.out hpe
    have HL := Lib.hid hL
    have HDL := Lib.hid hDL
    clear hB hBW hK hL hDL
    go_wp2
    have hx1 := heap_set hoA 0 (.slice a6 D.length cap6)
    have hx2 := heap_other hx1 (V := A + 1) (by omega) 0 (.int .i64 0)
    have hx3 := heap_other hx2 (V := A + 1) (by omega) 1 (.int .i64 0)
    have hy1 := heap_other hoF (V := A) (by omega) 0 (.slice a6 D.length cap6)
    have hy3 := heap_set (heap_set hy1 0 (.int .i64 0)) 1 (.int .i64 0)
    have hK' := (KeepsOthers.setCell ((W.setCell ⟨A, 0, none⟩ (.slice a6 D.length cap6)).setCell ⟨A + 1, 0, none⟩ (.int .i64 0)) ⟨A + 1, 1, none⟩ (.int .i64 0)).same C _ ((KeepsOthers.setCell (W.setCell ⟨A, 0, none⟩ (.slice a6 D.length cap6)) ⟨A + 1, 0, none⟩ (.int .i64 0)).same C _ ((KeepsOthers.setCell W ⟨A, 0, none⟩ (.slice a6 D.length cap6)).same C _ HK.out rfl) rfl) rfl
    have hrow := gath_setI (gath_setI (gath_setI HB.out.row (by omega : A < A + 1 + 1 + 1 + 1) 0 (.slice a6 D.length cap6)) (by omega : A + 1 < A + 1 + 1 + 1 + 1) 0 (.int .i64 0)) (by omega : A + 1 < A + 1 + 1 + 1 + 1) 1 (.int .i64 0)
    have hbl := ((HB.out.below.setCell (p := ⟨A, 0, none⟩) (Nat.le_refl _) (.slice a6 D.length cap6)).setCell (p := ⟨A + 1, 0, none⟩) (by show A ≤ A + 1; omega) (.int .i64 0)).setCell (p := ⟨A + 1, 1, none⟩) (by show A ≤ A + 1; omega) (.int .i64 0)
    generalize ((W.setCell ⟨A, 0, none⟩ (.slice a6 D.length cap6)).setCell ⟨A + 1, 0, none⟩ (.int .i64 0)).setCell ⟨A + 1, 1, none⟩ (.int .i64 0) = X at *
    refine ⟨by simp, .inl ⟨_, _, rfl, run_takeDeferred hK', ?_⟩⟩
    have hCA : A ≠ C := by omega
    have hCF : A + 1 ≠ C := by omega
    have k0 : (X.putObj C (.deferred none)).cell? ⟨A, 0, none⟩ = some (.slice a6 D.length cap6) := heap_cell ((World.putObj_heap_other (o := .deferred none) hCA).trans hx3) (i := 0) rfl
    have k1 : (X.putObj C (.deferred none)).cell? ⟨A + 1, 0, none⟩ = some (.int .i64 0) := heap_cell ((World.putObj_heap_other (o := .deferred none) hCF).trans hy3) (i := 0) rfl
    have k2 : (X.putObj C (.deferred none)).cell? ⟨A + 1, 1, none⟩ = some (.int .i64 0) := heap_cell ((World.putObj_heap_other (o := .deferred none) hCF).trans hy3) (i := 1) rfl
    refine ⟨.tuple #[.slice a6 D.length cap6, zF], ?_, ?_, ?_⟩
    · unfold zF
      simp [results, Tryd.f6, go_sem, k0, k1, k2]
    · rw [HA.out]
      exact hbl.trans ((Below.refl A X).grown (grownBy_putObj' X C (.deferred none)) (by have := hbl.size; have := HA.out; omega) (fun k e => by cases e; omega))
    · rw [HL.out]
      refine ⟨_, rfl, ?_⟩
      rw [HA.out]
      have h10 : D.length = L.length := by rw [HDL.out, List.length_map]
      rw [← HDL.out, ← h10]
      have h8 := gath_base (base' := A) hrow (by omega)
      exact gath_putObj (l := C) (o := .deferred (some [])) h8 (.deferred none) hK' rfl
  case stop =>
    rintro C c pre W0 W hC hpre ⟨rfl, ini, x, rfl, h1, h2, hoA, hoF, hbl⟩ hbW hK
    have hE := list_stop HD.out hpre h1 h2
    have hx := heap_below hoA hbW (heap_lt hoA)
    have hy := heap_below hoF hbW (heap_lt hoF)
    have hz0 := heap_lt hoF
    have hzW := hbW.size
    gi_wp2
    refine ⟨by simp, .inl ⟨_, _, rfl, run_takeDeferred hK, ?_⟩⟩
    have hCA : A ≠ C := by omega
    have hCF : A + 1 ≠ C := by omega
    have k0 := heap_cell ((World.putObj_heap_other (o := .deferred none) hCA).trans hx) (i := 0) rfl
    have k1 := heap_cell ((World.putObj_heap_other (o := .deferred none) hCF).trans hy) (i := 0) rfl
    have k2 := heap_cell ((World.putObj_heap_other (o := .deferred none) hCF).trans hy) (i := 1) rfl
    simp only [List.getElem_toArray, List.getElem_cons_zero, List.getElem_cons_succ] at k0 k1 k2
    refine ⟨.tuple #[.slice none 0 0, .agg #[.int .i64 x.e, .int .i64 (x.ea : Int)]], ?_, ?_, ?_⟩
    · simp [results, Tryd.f6, go_sem, k0, k1, k2]
    · rw [HA.out]
      exact (hbl.trans (hbW.mono (by omega))).trans ((Below.refl A W).grown (grownBy_putObj' W C (.deferred none)) (by omega) (fun k e => by cases e; omega))
    · rw [hE]
end Go.Proofs.YtdobpgakmonnbaaDoor.Tok
