/- The tokens of a text, one after the other: All and the function that it hands back. -/
import Derived.Test.YtdobpgakmonnbaaDoorToD
import Derived.Test.YtdobpgakmonnbaaDoorToG
import Derived.Test.YtdobpgakmonnbaaDoorSq
import Derived.Deep.Cut
import Derived.Deep.CutBlock
set_option linter.unusedVariables false
set_option linter.unusedSectionVars false
set_option linter.unusedSimpArgs false
namespace Go.Proofs.YtdobpgakmonnbaaDoor.Tok
open Go.RowKit Go.Shelf

attribute [local go_sem] Oper.semAt_some

/-- What a round gets: a token, or a fault. -/
structure TkE where
  kind : Nat
  at_ : Nat
  text : ByteArray
  n : Int
  e : Int
  ea : Nat
def TkE.tok (k a : Nat) (s : List UInt8) (n : Int) : TkE := ⟨k, a, ⟨s.toArray⟩, n, 0, 0⟩
def TkE.bad (e : Int) (a : Nat) : TkE := ⟨0, 0, ⟨#[]⟩, 0, e, a⟩
def encT (x : TkE) : Array Value := #[wfTok x.kind x.at_ x.text x.n, .agg #[.int .i64 x.e, .int .i64 (x.ea : Int)]]
/-- All that is handed out of a text. -/
def allD : Nat → Nat → List UInt8 → List TkE
  | 0, _, _ => []
  | f + 1, a, s => match firstV (skipB false s) with
    | .error e => [.bad e (a + (s.length - (skipB false s).length))]
    | .ok t => if t.kind = 0 then [.tok t.kind (a + (s.length - (skipB false s).length)) ((skipB false s).take t.len) t.n]
      else .tok t.kind (a + (s.length - (skipB false s).length)) ((skipB false s).take t.len) t.n :: allD f (a + (s.length - (skipB false s).length) + t.len) ((skipB false s).drop t.len)
theorem allD_succ (f a : Nat) (s : List UInt8) : allD (f + 1) a s = match firstV (skipB false s) with
    | .error e => [.bad e (a + (s.length - (skipB false s).length))]
    | .ok t => if t.kind = 0 then [.tok t.kind (a + (s.length - (skipB false s).length)) ((skipB false s).take t.len) t.n]
      else .tok t.kind (a + (s.length - (skipB false s).length)) ((skipB false s).take t.len) t.n :: allD f (a + (s.length - (skipB false s).length) + t.len) ((skipB false s).drop t.len) := rfl
def TkE.of (x : TokW) : TkE := .tok x.kind x.at_ x.text x.n
/-- The first one of what is handed out that is a fault is the last one. -/
theorem all_toks : ∀ f a s, s.length < f → match toksF f a s with
    | .error (e, p) => ∃ pre : List TkE, allD f a s = pre ++ [.bad e p] ∧ ∀ x ∈ pre, x.e = 0
    | .ok L => allD f a s = L.map .of
  | 0, _, s, h => absurd h (Nat.not_lt_zero _)
  | f + 1, a, s, h => by
    rw [toksF_succ, allD_succ]
    cases hf : firstV (skipB false s) with
    | error e => exact ⟨[], rfl, fun x hx => by simp at hx⟩
    | ok t =>
      simp only
      by_cases k0 : t.kind = 0
      · rw [if_pos k0, if_pos k0]; rfl
      · rw [if_neg k0, if_neg k0]
        have hs : skipB false s ≠ [] := fun e => by
          rw [e] at hf
          cases hf
          exact k0 rfl
        obtain ⟨_, k1, k2⟩ := first_len hf hs
        have hl := skipB_le false s
        have ih := all_toks f (a + (s.length - (skipB false s).length) + t.len) ((skipB false s).drop t.len) (by rw [List.length_drop]; omega)
        cases ht : toksF f (a + (s.length - (skipB false s).length) + t.len) ((skipB false s).drop t.len) with
        | error x =>
          rw [ht] at ih
          obtain ⟨e, p⟩ := x
          obtain ⟨pre, h1, h2⟩ := ih
          refine ⟨.tok t.kind (a + (s.length - (skipB false s).length)) ((skipB false s).take t.len) t.n :: pre, by simp only [h1, List.cons_append], fun x hx => ?_⟩
          rcases List.mem_cons.1 hx with rfl | hx
          · rfl
          · exact h2 x hx
        | ok L =>
          rw [ht] at ih
          simp only at ih ⊢
          rw [ih]
          rfl
theorem allD_length : ∀ f a s, (allD f a s).length ≤ s.length + 1
  | 0, _, s => by simp [allD]
  | f + 1, a, s => by
    rw [allD_succ]
    cases hf : firstV (skipB false s) with
    | error e => simp
    | ok t =>
      simp only
      by_cases k0 : t.kind = 0
      · rw [if_pos k0]; simp
      · rw [if_neg k0]
        have hs : skipB false s ≠ [] := fun e => by
          rw [e] at hf
          cases hf
          exact k0 rfl
        obtain ⟨_, k1, k2⟩ := first_len hf hs
        have hl := skipB_le false s
        have ih := allD_length f (a + (s.length - (skipB false s).length) + t.len) ((skipB false s).drop t.len)
        rw [List.length_drop] at ih
        simp
        omega
theorem take_extract (s : ByteArray) {k m : Nat} (h : k ≤ s.size) (hm : m ≤ s.size - k) : (s.extract k s.size).extract 0 m = ⟨((s.data.toList.drop k).take m).toArray⟩ := by
  apply ByteArray.ext
  apply Array.toList_inj.1
  simp [ByteArray.data_extract]
  omega
theorem skip_drop : ∀ m (s : List UInt8), skipB m s = s.drop (s.length - (skipB m s).length)
  | _, [] => by simp [skipB]
  | true, c :: r => by
    have h1 := skip_drop true r
    have h2 := skip_drop false r
    have l1 := skipB_le true r
    have l2 := skipB_le false r
    unfold skipB
    split
    · rw [List.length_cons, show r.length + 1 - (skipB false r).length = (r.length - (skipB false r).length) + 1 by omega, List.drop_succ_cons]
      exact h2
    · rw [List.length_cons, show r.length + 1 - (skipB true r).length = (r.length - (skipB true r).length) + 1 by omega, List.drop_succ_cons]
      exact h1
  | false, c :: r => by
    have h1 := skip_drop true r
    have h2 := skip_drop false r
    have l1 := skipB_le true r
    have l2 := skipB_le false r
    unfold skipB
    split
    · rw [List.length_cons, show r.length + 1 - (skipB false r).length = (r.length - (skipB false r).length) + 1 by omega, List.drop_succ_cons]
      exact h2
    · split
      · rw [List.length_cons, show r.length + 1 - (skipB true r).length = (r.length - (skipB true r).length) + 1 by omega, List.drop_succ_cons]
        exact h1
      · simp
theorem num_err {s : List UInt8} {x : Int} (h : numV s = .error x) : x = 21 ∨ x = 23 := by
  unfold numV at h
  simp only at h
  split at h
  · cases h; exact .inl rfl
  · split at h
    · cases h; exact .inr rfl
    · cases h
theorem first_err {s : List UInt8} {x : Int} (h : firstV s = .error x) : x = 21 ∨ x = 23 := by
  cases s with
  | nil => cases h
  | cons c r =>
    rw [firstV_cons] at h
    split at h
    · cases h
    · split at h
      · cases h
      · exact num_err h
/-- What the walk of the function that All hands back goes on with. -/
structure AtK (s : ByteArray) (D : List TkE) (J : List TkE → World → Prop) (k : Nat) (W0 : World) (n₀ lo up : Nat) (W : World) : Prop where
  j : ∃ pre f, D = pre ++ allD f k (s.data.toList.drop k) ∧ s.size - k < f ∧ J pre W
  low : Below n₀ W0 W
  mid : Mid lo up W0 W
set_option maxRecDepth 100000 in
set_option maxHeartbeats 4000000 in
theorem all_seq {s : ByteArray} (hs : s.size ≤ 4194304) {w : World} {Bx n₀ lo up : Nat} (hBx : w.cell? ⟨Bx, 0, none⟩ = some (.string s)) (h1 : lo ≤ Bx) (h2 : Bx < up) (h3 : up ≤ w.heap.size) (hv : VarR w) (hn : 2 < n₀) (hnw : n₀ ≤ w.heap.size) (q : Nat) :
    SeqF Fence.wide q Tryd.prog 14 #[.pointer (some ⟨Bx, 0, none⟩)] encT n₀ lo up (allD (s.size + 1) 0 s.data.toList) w := by
  intro l J Jx W hW hY h0
  have hBxW : W.cell? ⟨Bx, 0, none⟩ = some (.string s) := (hW.cell (p := ⟨Bx, 0, none⟩) (by show Bx < _; omega)).trans hBx
  have hvW : VarR W := hv.on (by omega) hW
  have hzW := hW.size
  obtain ⟨D, hD⟩ : ∃ D, allD (s.size + 1) 0 s.data.toList = D := ⟨_, rfl⟩
  rw [hD] at hY ⊢
  have HK0 : Hid (AtK s D J 0 W n₀ lo up W) := Lib.hid ⟨⟨[], s.size + 1, hD.symm, by omega, h0⟩, Below.refl _ _, Mid.refl _ _ _⟩
  have HY := Lib.hid hY
  have HBX := Lib.hid hBxW
  have HV := Lib.hid hvW
  clear hD hY h0 hBx hv hW hvW
  have hsz : (s.size : Int) ≤ 4194304 := by omega
  have hgt : decide ((4194304 : Int) < (s.size : Int)) = false := by simp; omega
  refine callsIn_of_wp Tryd.func14 rfl trivial ?_ rfl
  simp only [Tryd.ntmps14, List.size_toArray, List.length_cons, List.length_nil, Nat.reduceAdd, Nat.reduceSub, Array.replicate_succ, Array.replicate_zero, List.push_toArray, List.append_toArray, List.nil_append, List.cons_append]
  gi_wp2
  gi_loopw [3] (fun i wr => ∃ k : Nat, k ≤ s.size ∧ i = .int .i64 (k : Int) ∧ Hid (AtK s D J k W n₀ lo up wr))
    (fun i _ => s.size - (intOf i).toNat)
  case atStart => exact ⟨0, Nat.zero_le _, rfl, HK0⟩
  case round =>
    obtain ⟨k, hk, rfl, HK⟩ := hrel
    obtain ⟨pre, f, hDp, hf, hJp⟩ := HK.out.j
    have hbxr : wr.cell? ⟨Bx, 0, none⟩ = some (.string s) := (HK.out.mid.cell (p := ⟨Bx, 0, none⟩) h1 h2).trans HBX.out
    have hvr : VarR wr := by
      obtain ⟨ev, e1, e2⟩ := HV.out
      exact ⟨ev, (HK.out.low.cell (p := ⟨2, 0, none⟩) hn).trans e1, e2⟩
    have hzr := HK.out.low.size
    have hlk : (s.data.toList.drop k).length = s.size - k := by simp
    have hsk := skipB_le false (s.data.toList.drop k)
    have hsd := skip_drop false (s.data.toList.drop k)
    rw [hlk] at hsk hsd
    have HB := Lib.hid (blanks_any (s.extract k s.size) (by rw [ByteArray.size_extract]; unfold maxLen; omega) wr)
    rw [extract_list s hk, ByteArray.size_extract, Nat.min_self] at HB
    obtain ⟨b, hb⟩ : ∃ b, s.size - k - (skipB false (s.data.toList.drop k)).length = b := ⟨_, rfl⟩
    rw [hb] at HB hsd
    rw [List.drop_drop] at hsd
    have hk2 : k + b ≤ s.size := by omega
    obtain ⟨k2, hk2e⟩ : ∃ k2, k + b = k2 := ⟨_, rfl⟩
    rw [hk2e] at hk2 hsd
    have hadd : (k : Int) + (b : Int) = (k2 : Int) := by omega
    have hkk : k ≤ k2 := by omega
    have HF := Lib.hid (first_any (s.extract k2 s.size) (by rw [ByteArray.size_extract]; omega) wr hvr (by omega))
    unfold FirstPost at HF
    rw [extract_list s hk2] at HF
    have hlk2 : (s.data.toList.drop k2).length = s.size - k2 := by simp
    have HD := Lib.hid hDp
    have hDs : allD f k (s.data.toList.drop k) = match firstV (s.data.toList.drop k2) with
      | .error e => [.bad e k2]
      | .ok t => if t.kind = 0 then [.tok t.kind k2 ((s.data.toList.drop k2).take t.len) t.n]
        else .tok t.kind k2 ((s.data.toList.drop k2).take t.len) t.n :: allD (f - 1) (k2 + t.len) (s.data.toList.drop (k2 + t.len)) := by
      obtain ⟨f', rfl⟩ : ∃ f', f = f' + 1 := ⟨f - 1, by omega⟩
      rw [allD_succ, hsd, hlk, hlk2, show k + (s.size - k - (s.size - k2)) = k2 by omega, Nat.add_sub_cancel]
      simp only [List.drop_drop]
    have HDs := Lib.hid hDs
    have HJ := Lib.hid hJp
    have HVr := Lib.hid hvr
    have hk0 : (0 : Int) ≤ (k : Int) := Int.natCast_nonneg k
    have hk1 : (k : Int) ≤ (s.size : Int) := by omega
    have hk20 : (0 : Int) ≤ (k2 : Int) := Int.natCast_nonneg k2
    have hk21 : (k2 : Int) ≤ (s.size : Int) := by omega
    clear hDp hJp hvr hlk hsk hsd hb hk2e hlk2 hDs
    gi_wp2_with fail
    refine ⟨trivial, fun h => (by cases h), (callsIn_wide.2 HB.out).mono ?_⟩
    rintro e w' ⟨rfl, rfl⟩
    gi_wp2_with fail
    refine ⟨trivial, fun h => (by cases h), (callsIn_wide.2 HF.out).mono ?_⟩
    rintro e w2 ⟨hp, hb2⟩
    have hb3 : Below wr.heap.size wr (w2.alloc (.cells #[.int .i64 0, .int .i64 0, .string ⟨#[]⟩, .int .i64 0] 32)) := hb2.alloc hb2.size _
    have hx3 := heap_new (w := w2) (.cells #[.int .i64 0, .int .i64 0, .string ⟨#[]⟩, .int .i64 0] 32) rfl
    have HB2 := Lib.hid hb2
    have hz2 := hb2.size
    clear hb2 HB HF
    cases hfv : firstV (s.data.toList.drop k2) with
    | error x =>
      rw [hfv] at hp HDs
      simp only at hp
      subst hp
      have hx0 : (x != 0) = true := by rcases first_err hfv with rfl | rfl <;> rfl
      clear hfv
      unfold wfTok
      have hDe : D = pre ++ [.bad x k2] := by rw [HD.out, HDs.out]
      obtain ⟨fn, tmps, assign, body, hy, hRd⟩ := HY.out pre (.bad x k2) wr _ HJ.out hb3 ⟨[], by rw [hDe]; simp⟩
      replace hy : (Instr.yield l #[.agg #[.int .i64 0, .int .i64 0, .string ⟨#[]⟩, .int .i64 0], .agg #[.int .i64 x, .int .i64 (k2 : Int)]]).run Tryd.prog (w2.alloc (.cells #[.int .i64 0, .int .i64 0, .string ⟨#[]⟩, .int .i64 0] 32)) = _ := hy
      have HRd := Lib.hid hRd
      have HDe := Lib.hid hDe
      clear hRd hDe HDs HD
      gi_wp2
      refine ⟨fun h => (by cases h), RoundIn.mono HRd.out ?_⟩
      rintro e W9 ⟨⟨hk1, hk2, hk3⟩, ⟨rfl, hj⟩ | ⟨rfl, hj⟩⟩
      · have HJ9 := Lib.hid hj
        clear hj hk1 hk2 hk3
        gi_wp2
        refine bodyPost_ret (results_none rfl _ _ _) rfl ?_
        exact ⟨⟨_, rfl⟩, W9, Below.refl _ _, .inl (by rw [HDe.out]; exact HJ9.out)⟩
      · have HJ9 := Lib.hid hj
        clear hj hk1 hk2 hk3
        gi_wp2
        refine bodyPost_ret (results_none rfl _ _ _) rfl ?_
        exact ⟨⟨_, rfl⟩, W9, Below.refl _ _, .inr ⟨_, ⟨[], by rw [HDe.out]; simp⟩, HJ9.out⟩⟩
    | ok t =>
      rw [hfv] at hp HDs
      simp only at hp
      subst hp
      unfold wfTok
      have hte : (s.extract k2 s.size).extract 0 t.len = ⟨((s.data.toList.drop k2).take t.len).toArray⟩ := by
        refine take_extract s hk2 ?_
        by_cases hs0 : s.data.toList.drop k2 = []
        · rw [hs0] at hfv; cases hfv; exact Nat.zero_le _
        · have := (first_len hfv hs0).2.2
          rw [List.length_drop] at this
          simpa using this
      obtain ⟨tx, htx⟩ : ∃ x, (s.extract k2 s.size).extract 0 t.len = x := ⟨_, rfl⟩
      rw [htx] at hte ⊢
      clear htx
      obtain ⟨tk, htk⟩ : ∃ x, t.kind = x := ⟨_, rfl⟩
      obtain ⟨tn, htn⟩ : ∃ x, t.n = x := ⟨_, rfl⟩
      rw [htk, htn]
      have HTk := Lib.hid htk
      have HTn := Lib.hid htn
      have HTe := Lib.hid hte
      have HFv := Lib.hid hfv
      have HB4 : Hid (Below wr.heap.size wr (w2.alloc (.cells #[.int .i64 (tk : Int), .int .i64 (k2 : Int), .string tx, .int .i64 tn] 32))) := Lib.hid (HB2.out.alloc hz2 _)
      have HX4 := Lib.hid (heap_new (w := w2) (.cells #[.int .i64 (tk : Int), .int .i64 (k2 : Int), .string tx, .int .i64 tn] 32) rfl)
      have HZ4 : Hid (w2.heap.size < (w2.alloc (.cells #[.int .i64 (tk : Int), .int .i64 (k2 : Int), .string tx, .int .i64 tn] 32)).heap.size) := Lib.hid (by simp)
      have hDe : ∃ rest, D = pre ++ [⟨tk, k2, tx, tn, 0, 0⟩] ++ rest ∧ (tk = 0 → rest = []) ∧ (tk ≠ 0 → rest = allD (f - 1) (k2 + t.len) (s.data.toList.drop (k2 + t.len))) := by
        have e1 : TkE.tok t.kind k2 ((s.data.toList.drop k2).take t.len) t.n = ⟨tk, k2, tx, tn, 0, 0⟩ := by
          unfold TkE.tok
          rw [htk, htn, hte]
        rw [HD.out, HDs.out]
        dsimp only
        rw [e1, htk]
        by_cases h : tk = 0
        · exact ⟨[], by simp [h], fun _ => rfl, fun h' => absurd h h'⟩
        · exact ⟨_, by rw [if_neg h, List.append_assoc]; rfl, fun h' => absurd h' h, fun _ => rfl⟩
      obtain ⟨rest, hDe, hr0, hr1⟩ := hDe
      obtain ⟨fn, tmps, assign, body, hy, hRd⟩ := HY.out pre ⟨tk, k2, tx, tn, 0, 0⟩ wr _ HJ.out HB4.out ⟨rest, hDe.symm⟩
      replace hy : (Instr.yield l #[.agg #[.int .i64 (tk : Int), .int .i64 (k2 : Int), .string tx, .int .i64 tn], .agg #[.int .i64 0, .int .i64 0]]).run Tryd.prog (w2.alloc (.cells #[.int .i64 (tk : Int), .int .i64 (k2 : Int), .string tx, .int .i64 tn] 32)) = _ := hy
      have HRd := Lib.hid hRd
      have HDe := Lib.hid hDe
      have HR0 := Lib.hid hr0
      have HR1 := Lib.hid hr1
      clear htk htn hte hfv hRd hDe hr0 hr1 HDs HD hx3 hb3
      gi_wp2
      refine ⟨fun h => (by cases h), RoundIn.mono HRd.out ?_⟩
      rintro e W9 ⟨⟨hk1, hk2, hk3⟩, ⟨rfl, hj⟩ | ⟨rfl, hj⟩⟩
      · have HJ9 := Lib.hid hj
        have hx9 := (hk3.block w2.heap.size hz2 HZ4.out).trans HX4.out
        have c0 := heap_cell hx9 (i := 0) rfl
        have c2 := heap_cell hx9 (i := 2) rfl
        simp only [List.getElem_toArray, List.getElem_cons_zero, List.getElem_cons_succ] at c0 c2
        have HAl : Hid (Below n₀ W W9 ∧ Mid lo up W W9) := Lib.hid ⟨(HK.out.low.trans (HB4.out.mono (by omega))).trans hk1, (HK.out.mid.trans (Mid.of_below HB4.out (by omega))).trans hk2⟩
        clear hj hk1 hk2 hk3 hx9
        by_cases hk0' : tk = 0
        · have hkb : ((tk : Int) == 0) = true := by simp; omega
          have HRn := Lib.hid (HR0.out hk0')
          clear hk0'
          gi_wp2
          refine bodyPost_ret (results_none rfl _ _ _) rfl ?_
          exact ⟨⟨_, rfl⟩, W9, Below.refl _ _, .inl (by rw [HDe.out, HRn.out, List.append_nil]; exact HJ9.out)⟩
        · have hkb : ((tk : Int) == 0) = false := by simp; omega
          have HRn := Lib.hid (HR1.out hk0')
          have hs0 : s.data.toList.drop k2 ≠ [] := fun e => by
            have h1 := HFv.out
            rw [e] at h1
            cases h1
            exact hk0' HTk.out.symm
          obtain ⟨_, hl1, hl2⟩ := first_len HFv.out hs0
          rw [List.length_drop, show s.data.toList.length = s.size by simp] at hl2
          have htz : tx.size = t.len := by
            rw [HTe.out]
            show ((s.data.toList.drop k2).take t.len).toArray.size = t.len
            simp
            omega
          have hks : k2 + tx.size ≤ s.size := by omega
          have hlen1 : 1 ≤ tx.size := by omega
          have HTz := Lib.hid htz
          clear hk0' hs0 htz hl1 hl2
          gi_wp2
          go_roundw
          case rel => exact ⟨k2 + tx.size, hks, by go_num, Lib.hid ⟨⟨pre ++ [⟨tk, k2, tx, tn, 0, 0⟩], f - 1, by rw [HDe.out, HRn.out, HTz.out], by omega, HJ9.out⟩, HAl.out.1, HAl.out.2⟩⟩
          case measure => simp [intOf]; omega
      · have HJ9 := Lib.hid hj
        clear hj hk1 hk2 hk3
        gi_wp2
        refine bodyPost_ret (results_none rfl _ _ _) rfl ?_
        exact ⟨⟨_, rfl⟩, W9, Below.refl _ _, .inr ⟨_, ⟨_, HDe.out.symm⟩, HJ9.out⟩⟩
end Go.Proofs.YtdobpgakmonnbaaDoor.Tok
