/- Upgrade, plainly: one up. Contracts: a product by a thousand; the first of two. General: what is turned in a model of one's own. -/
import Derived.Test.YtenjhbibhkjdaaaUb
set_option linter.unusedVariables false
set_option linter.unusedSectionVars false
set_option linter.unusedSimpArgs false
namespace Go.Proofs.Ytenjhbibhkjdaaa.Md
open Go.RowKit Go.Shelf
/-- The first of two that is one. -/
theorem or64_any {w : World} {N : Nat} {a b : Int} (h0 : w.cell? ⟨N, 0, none⟩ = some (.int .i64 a)) (h1 : w.cell? ⟨N, 1, none⟩ = some (.int .i64 b)) :
    Calls Try.prog 96 #[.slice (some ⟨N, 0, none⟩) 2 2] w fun e w' => e = .returned (.int .i64 (if a = 0 then b else a)) ∧ w' = w := by
  obtain ⟨r, hr⟩ : ∃ r, (if a = 0 then b else a) = r := ⟨_, rfl⟩
  rw [hr]
  have HR := Lib.hid hr
  clear hr
  go_enter Try.func96, Try.ntmps96
  go_wp2
  go_loop [8] (fun i => ∃ k : Nat, i = .int .i64 (k : Int) ∧ k ≤ 2 ∧ Hid ((1 ≤ k → a = 0) ∧ (2 ≤ k → b = 0))) (fun i => 2 - (intOf i).toNat)
  case atStart => exact ⟨0, rfl, by omega, Lib.hid ⟨by omega, by omega⟩⟩
  case round =>
    obtain ⟨k, rfl, hk, HK⟩ := hrel
    rcases (by omega : k = 0 ∨ k = 1 ∨ k = 2) with rfl | rfl | rfl
    · by_cases ha : a = 0
      · have hab : (a != 0) = false := by simpa using ha
        have HN : Hid ((1 ≤ 1 → a = 0) ∧ (2 ≤ 1 → b = 0)) := Lib.hid ⟨fun _ => ha, by omega⟩
        clear ha
        go_wp2
        go_round
        case rel => exact ⟨1, rfl, by omega, HN⟩
        case measure => simp [intOf]
      · have hab : (a != 0) = true := by simpa using ha
        have HE : Hid (r = a) := Lib.hid (by rw [← HR.out, if_neg ha])
        clear ha
        go_wp2
        go_ret
        exact ⟨by rw [HE.out]; rfl, rfl⟩
    · have ha := HK.out.1 (Nat.le_refl _)
      by_cases hb : b = 0
      · have hab : (b != 0) = false := by simpa using hb
        have HN : Hid ((1 ≤ 2 → a = 0) ∧ (2 ≤ 2 → b = 0)) := Lib.hid ⟨fun _ => ha, fun _ => hb⟩
        clear ha hb
        go_wp2
        go_round
        case rel => exact ⟨2, rfl, by omega, HN⟩
        case measure => simp [intOf]
      · have hab : (b != 0) = true := by simpa using hb
        have HE : Hid (r = b) := Lib.hid (by rw [← HR.out, if_pos ha])
        clear ha hb
        go_wp2
        go_ret
        exact ⟨by rw [HE.out]; rfl, rfl⟩
    · have ha := HK.out.1 (by omega)
      have hb := HK.out.2 (by omega)
      have HE : Hid (r = 0) := Lib.hid (by rw [← HR.out, if_pos ha, hb])
      clear ha hb
      go_wp2
      go_ret
      exact ⟨by rw [HE.out]; rfl, rfl⟩

theorem mul1000_any (a : Int) (h0 : 0 ≤ a) (h1 : a ≤ 1099511627776) (w : World) : Calls Try.prog 95 #[.int .i64 a, .int .i64 1000] w fun e w' => e = .returned (.tuple #[.int .i64 (a * 1000), .bool true]) ∧ w' = w := by
  have hw : IntKind.i64.wrap (a * 1000) = a * 1000 := by rw [IntKind.wrap_i64]; omega
  have ht : (a * 1000).tdiv 1000 = a := by rw [Int.mul_tdiv_cancel _ (by decide)]
  obtain ⟨m, hm⟩ : ∃ m, a * 1000 = m := ⟨_, rfl⟩
  rw [hm] at hw ht ⊢
  have hw2 : IntKind.i64.wrap a = a := by rw [IntKind.wrap_i64]; omega
  have hn : (a != a) = false := by simp
  have hb1 : (-9223372036854775808 : Int) ≤ m := by omega
  have hb2 : m ≤ (9223372036854775807 : Int) := by omega
  go_enter Try.func95, Try.ntmps95
  go_wp2
  go_ret2
  exact ⟨rfl, rfl⟩
/-- The first j turned by f. -/
def upto {α : Type} (f : α → α) (j : Nat) (L : List α) : List α := (L.take j).map f ++ L.drop j
section
variable {α : Type} {f : α → α} {j : Nat} {L : List α}
theorem upto_zero : upto f 0 L = L := rfl
theorem upto_all : upto f L.length L = L.map f := by unfold upto; simp
theorem upto_length (hj : j ≤ L.length) : (upto f j L).length = L.length := by unfold upto; simp; omega
theorem upto_get (hj : j < L.length) : (upto f j L)[j]? = L[j]? := by
  unfold upto
  rw [List.getElem?_append_right (by simp; omega)]
  simp
  congr 1
  omega
theorem upto_set {q : α} (hq : L[j]? = some q) : (upto f j L).set j (f q) = upto f (j + 1) L := by
  obtain ⟨hj, rfl⟩ := List.getElem?_eq_some_iff.1 hq
  unfold upto
  rw [List.set_append_right _ _ (by simp; omega), List.take_succ_eq_append_getElem hj, List.map_append, List.append_assoc]
  congr 1
  simp only [List.length_map, List.length_take]
  rw [show j - min j L.length = 0 by omega, List.drop_eq_getElem_cons hj]
  rfl
theorem upto_mem {P : α → Prop} (h0 : ∀ x ∈ L, P x) (h1 : ∀ x ∈ L, P (f x)) : ∀ x ∈ upto f j L, P x := fun x hx => by
  unfold upto at hx
  rcases List.mem_append.1 hx with h | h
  · obtain ⟨y, hy, rfl⟩ := List.mem_map.1 h
    exact h1 y (List.mem_of_mem_take hy)
  · exact h0 x (List.mem_of_mem_drop h)
end
def orW (n : Int) : Int := if n = 0 then 1 else n
def delL (l : LinkM) : LinkM := { l with delay := l.delay * 1000 }
def wghL (l : LinkM) : LinkM := { l with weight := orW l.weight }
def wghP (p : ProcM) : ProcM := { p with weight := orW p.weight }
def wghV (q : ProcV) : ProcV := { q with p := wghP q.p }
def zeroM : ModelM := ⟨0, [], [], []⟩
/-- The first delay that is too much a thousand times. -/
def delE (L : List LinkM) : Int × Nat := fErr (fun _ l => if 1099511627776 < l.delay * 1000 then 30 else 0) 0 L
/-- Version 2 of a right model of version 1, or the fault. -/
def delR (m : ModelM) : ModelM × Int × Int := if (delE m.links).1 = 0 then ({ m with ver := 2, links := m.links.map delL }, 0, 0) else (zeroM, 30, ((m.procs.length + (delE m.links).2 : Nat) : Int))
def wghM (m : ModelM) : ModelM := ⟨3, m.procs.map wghP, m.links.map wghL, m.events⟩
/-- One up of a right model. -/
def upR (m : ModelM) : ModelM × Int × Int := if m.ver = 1 then delR m else if m.ver = 2 then (wghM m, 0, 0) else (zeroM, 43, 0)

def UpQ (w : World) (r : ModelM × Int × Int) (e : Ending) (w' : World) : Prop := ∃ x : ModelV, e = .returned (.tuple #[.agg #[.int .i64 x.ver, .slice x.pa x.procs.length x.pc, .slice x.la x.links.length x.lc, .slice x.ea x.events.length x.ec], .agg #[.int .i64 r.2.1, .int .i64 r.2.2]]) ∧ x.m = r.1 ∧ OwnM w.heap.size w' x ∧ Below w.heap.size w w'
theorem up_ret {fn : Func} {p q : Tmp} (h : fn.results = #[.cell p 26, .cell q 33]) {W : World} {B C : Nat} {a b c d u v : Value} {tmps : Array Value} (hx : W.heap[B]? = some (.cells #[a, b, c, d] 26 (0, 0))) (hy : W.heap[C]? = some (.cells #[u, v] 33 (0, 0)))
    (h2 : tmps.getD p undef = .pointer (some ⟨B, 0, none⟩)) (h3 : tmps.getD q undef = .pointer (some ⟨C, 0, none⟩)) : (results fn tmps).run Try.prog W = .ok (.tuple #[.agg #[a, b, c, d], .agg #[u, v]]) W := by
  have h2' : tmps[p]?.getD undef = .pointer (some ⟨B, 0, none⟩) := by simpa using h2
  have h3' : tmps[q]?.getD undef = .pointer (some ⟨C, 0, none⟩) := by simpa using h3
  simp [results, h, h2', h3', asAddr, run_loadVar_row W B 26 26 _ (0, 0) _ hx Try.underlying26 rfl Try.infoMd, run_loadVar_row W C 33 33 _ (0, 0) _ hy Try.underlying33 rfl Try.infoFl]
def noneV : ModelV := ⟨0, [], [], [], none, 0, 0, 0, none, 0, 0, 0, none, 0, 0, 0⟩
theorem own_none (base : Nat) (W : World) : OwnM base W noneV := ⟨⟨.inl rfl, Nat.zero_le _, fun x hx => by simp [noneV] at hx⟩, rfl, fun p hp => by simp [noneV] at hp, ⟨.inl rfl, Nat.zero_le _, fun x hx => by simp [noneV] at hx⟩, rfl, ⟨.inl rfl, Nat.zero_le _, fun x hx => by simp [noneV] at hx⟩, rfl⟩
/-- Is it a type of a model's lists? -/
def listT (t : TypeId) : Bool := t == 39 || t == 50 || t == 52 || t == 81 || t == 100
theorem OwnM.turned {base : Nat} {W W' : World} {x : ModelV} {R : Nat → Prop} (h : OwnM base W x) (hT : Turned R W W') (hn : ∀ b cur t, W.heap[b]? = some (.cells cur t (0, 0)) → listT t = true → ¬ R b) : OwnM base W' x :=
  ⟨h.procs.turned hT (fun _ _ hc => hn _ _ _ hc rfl), h.po, fun p hp => ⟨(h.inner p hp).vars.turned hT (fun _ _ hc => hn _ _ _ hc rfl), (h.inner p hp).vo, (h.inner p hp).steps.turned hT (fun _ _ hc => hn _ _ _ hc rfl), (h.inner p hp).so⟩, h.links.turned hT (fun _ _ hc => hn _ _ _ hc rfl), h.lo, h.events.turned hT (fun _ _ hc => hn _ _ _ hc rfl), h.eo⟩
/-- A box that is no list. -/
theorem OwnM.box {base N : Nat} {W : World} {x : ModelV} {cs : Array Value} {t : TypeId} (h : OwnM base W x) (hN : W.heap[N]? = some (.cells cs t (0, 0))) (ht : listT t = false) (i : Nat) (v : Value) : OwnM base (W.setCell ⟨N, i, none⟩ v) x :=
  h.turned (Turned.one W N i v) (fun b cur t' hc hl e => by
    rw [e, hN] at hc
    cases hc
    rw [ht] at hl
    cases hl)
theorem OwnM.setL {base : Nat} {W : World} {x : ModelV} (h : OwnM base W x) {k : Nat} {l l2 : LinkM} (hk : x.links[k]? = some l) {q : Nat} (hq : q < 5) {v : Value} (h' : ∀ r u, (encL l2)[r]? = some u → (r = q ∧ u = v) ∨ (r ≠ q ∧ (encL l)[r]? = some u)) (hf : fitL l2) : OwnM base (W.setCell ⟨x.lb, k * 5 + q, none⟩ v) { x with links := x.links.set k l2 } := by
  obtain ⟨ha, hb, hr⟩ := h.links.own.resolve_left (fun e => by rw [e] at hk; simp at hk)
  have hT := Turned.one W x.lb (k * 5 + q) v
  refine ⟨h.procs.other hr hT (by decide), h.po, fun p hp => ⟨(h.inner p hp).vars.other hr hT (by decide), (h.inner p hp).vo, (h.inner p hp).steps.other hr hT (by decide), (h.inner p hp).so⟩, ⟨.inr ⟨ha, hb, RowC.set (enc := encL) (fun _ => rfl) hr hk hq h'⟩, by rw [List.length_set]; exact h.links.small, fun y hy => ?_⟩, h.lo, h.events.other hr hT (by decide), h.eo⟩
  rcases List.mem_or_eq_of_mem_set hy with h1 | h1
  · exact h.links.fits y h1
  · rw [h1]
    exact hf
theorem OwnM.setP {base : Nat} {W : World} {x : ModelV} (h : OwnM base W x) {k : Nat} {p : ProcV} (hk : x.procs[k]? = some p) (n : Int) : OwnM base (W.setCell ⟨x.pb, k * 4 + 1, none⟩ (.int .i64 n)) { x with procs := x.procs.set k { p with p := { p.p with weight := n } } } := by
  obtain ⟨ha, hb, hr⟩ := h.procs.own.resolve_left (fun e => by rw [e] at hk; simp at hk)
  have hT := Turned.one W x.pb (k * 4 + 1) (.int .i64 n)
  refine ⟨⟨.inr ⟨ha, hb, RowC.set (enc := encP) (fun _ => rfl) hr hk (by decide) (fun r u hu => ?_)⟩, by rw [List.length_set]; exact h.procs.small, fun y hy => ?_⟩, h.po, fun y hy => ?_, h.links.other hr hT (by decide), h.lo, h.events.other hr hT (by decide), h.eo⟩
  · rcases r with _ | _ | _ | _ | r
    · exact .inr ⟨by decide, hu⟩
    · exact .inl ⟨rfl, by simpa [encP] using hu.symm⟩
    · exact .inr ⟨by decide, hu⟩
    · exact .inr ⟨by decide, hu⟩
    · simp [encP] at hu
  · rcases List.mem_or_eq_of_mem_set hy with h1 | h1
    · exact h.procs.fits y h1
    · rw [h1]
      exact h.procs.fits p (List.mem_of_getElem? hk)
  · have hi : ∀ z ∈ x.procs, OwnP base (W.setCell ⟨x.pb, k * 4 + 1, none⟩ (.int .i64 n)) z := fun z hz => (h.inner z hz).other hr hT
    rcases List.mem_or_eq_of_mem_set hy with h1 | h1
    · exact hi y h1
    · rw [h1]
      have := hi p (List.mem_of_getElem? hk)
      exact ⟨this.vars, this.vo, this.steps, this.so⟩
theorem encL_del (l : LinkM) (n : Int) : ∀ r u, (encL { l with delay := n })[r]? = some u → (r = 3 ∧ u = .int .i64 n) ∨ (r ≠ 3 ∧ (encL l)[r]? = some u) := by
  intro r u hu
  rcases r with _ | _ | _ | _ | _ | r
  · exact .inr ⟨by decide, hu⟩
  · exact .inr ⟨by decide, hu⟩
  · exact .inr ⟨by decide, hu⟩
  · exact .inl ⟨rfl, by simpa [encL] using hu.symm⟩
  · exact .inr ⟨by decide, hu⟩
  · simp [encL] at hu
theorem encL_wgh (l : LinkM) (n : Int) : ∀ r u, (encL { l with weight := n })[r]? = some u → (r = 4 ∧ u = .int .i64 n) ∨ (r ≠ 4 ∧ (encL l)[r]? = some u) := by
  intro r u hu
  rcases r with _ | _ | _ | _ | _ | r
  · exact .inr ⟨by decide, hu⟩
  · exact .inr ⟨by decide, hu⟩
  · exact .inr ⟨by decide, hu⟩
  · exact .inr ⟨by decide, hu⟩
  · exact .inl ⟨rfl, by simpa [encL] using hu.symm⟩
  · simp [encL] at hu
end Go.Proofs.Ytenjhbibhkjdaaa.Md
