/- Models whose lists are one's own. -/
import Derived.Test.YtjcmeacgfflfmaaGreatMrw
set_option linter.unusedVariables false
set_option linter.unusedSectionVars false
set_option linter.unusedSimpArgs false
namespace Go.Proofs.YtjcmeacgfflfmaaGreat.Md
open Go.RowKit Go.Shelf

/-- A process whose lists are one's own. -/
structure OwnP (base : Nat) (W : World) (p : ProcV) : Prop where
  vars : OwnR encV fitV 2 40 base W p.va p.vb p.p.vars
  vo : p.vo = 0
  steps : OwnR encS fitS 5 38 base W p.sa p.sb p.p.steps
  so : p.so = 0
theorem OwnP.at_ {base : Nat} {W : World} {p : ProcV} (h : OwnP base W p) : ProcIn W.heap.size W p := ⟨by rw [h.vo]; exact h.vars.rows, by rw [h.so]; exact h.steps.rows⟩
theorem OwnP.on {base : Nat} {W W' : World} {p : ProcV} (h : OwnP base W p) (hb : Below W.heap.size W W') : OwnP base W' p := ⟨h.vars.on hb, h.vo, h.steps.on hb, h.so⟩
theorem OwnP.mono {base base' : Nat} {W : World} {p : ProcV} (h : OwnP base W p) (hb : base' ≤ base) : OwnP base' W p := ⟨h.vars.mono hb, h.vo, h.steps.mono hb, h.so⟩
/-- A model whose lists are one's own. -/
structure OwnM (base : Nat) (W : World) (x : ModelV) : Prop where
  procs : OwnR encP fitP 4 34 base W x.pa x.pb x.procs
  po : x.po = 0
  inner : ∀ p ∈ x.procs, OwnP base W p
  links : OwnR encL fitL 5 42 base W x.la x.lb x.links
  lo : x.lo = 0
  events : OwnR encE fitE 3 57 base W x.ea x.eb x.events
  eo : x.eo = 0
theorem OwnM.at_ {base : Nat} {W : World} {x : ModelV} (h : OwnM base W x) : ModelAt W.heap.size W x :=
  ⟨by rw [h.po]; exact h.procs.rows, fun p hp => (h.inner p hp).at_, by rw [h.lo]; exact h.links.rows, by rw [h.eo]; exact h.events.rows⟩
theorem OwnM.on {base : Nat} {W W' : World} {x : ModelV} (h : OwnM base W x) (hb : Below W.heap.size W W') : OwnM base W' x :=
  ⟨h.procs.on hb, h.po, fun p hp => (h.inner p hp).on hb, h.links.on hb, h.lo, h.events.on hb, h.eo⟩
theorem OwnM.mono {base base' : Nat} {W : World} {x : ModelV} (h : OwnM base W x) (hb : base' ≤ base) : OwnM base' W x :=
  ⟨h.procs.mono hb, h.po, fun p hp => (h.inner p hp).mono hb, h.links.mono hb, h.lo, h.events.mono hb, h.eo⟩
/-- Are a model's lists short enough to be copied? -/
structure Sized (m : ModelM) : Prop where
  procs : m.procs.length ≤ 20000
  links : m.links.length ≤ 20000
  events : m.events.length ≤ 20000
  inner : ∀ p ∈ m.procs, p.vars.length ≤ 20000 ∧ p.steps.length ≤ 20000

def CopyQ (w : World) (m : ModelM) (e : Ending) (w' : World) : Prop := ∃ x : ModelV, e = .returned (.agg #[.int .i64 x.ver, .slice x.pa x.procs.length x.pc, .slice x.la x.links.length x.lc, .slice x.ea x.events.length x.ec]) ∧ x.m = m ∧ OwnM w.heap.size w' x ∧ Below w.heap.size w w'
theorem Tryz.infoMd : (Tryz.prog.info? 26).map (·.size) = some 4 := by kernel_rfl
theorem mdl_ret {fn : Func} {p : Tmp} (h : fn.results = #[.cell p 26]) {W : World} {B : Nat} {a b c d : Value} {tmps : Array Value} (hx : W.heap[B]? = some (.cells #[a, b, c, d] 26 (0, 0)))
    (h2 : tmps.getD p undef = .pointer (some ⟨B, 0, none⟩)) : (results fn tmps).run Tryz.prog W = .ok (.agg #[a, b, c, d]) W :=
  results_cell_row h _ _ B 26 _ (0, 0) _ h2 hx Tryz.underlying26 rfl Tryz.infoMd
theorem Turned.one (W : World) (N i : Nat) (v : Value) : Turned (fun k => k = N) W (W.setCell ⟨N, i, none⟩ v) := Turned.set' (R := fun k => k = N) (Turned.refl' _ _) rfl i v
theorem OwnR.box {α : Type} {enc : α → List Value} {fit : α → Prop} {sz : Nat} {t : TypeId} {base N : Nat} {W : World} {a : Option Addr} {b : Nat} {L : List α} (h : OwnR enc fit sz t base W a b L) (hN : N < base) (i : Nat) (v : Value) : OwnR enc fit sz t base (W.setCell ⟨N, i, none⟩ v) a b L :=
  h.turned (R := fun k => k = N) (Turned.one W N i v) (fun hb _ _ e => by omega)
theorem Below.box {w W : World} {B N : Nat} (h : Below B w W) (hN : B ≤ N) (i : Nat) (v : Value) : Below B w (W.setCell ⟨N, i, none⟩ v) := h.setCell (p := ⟨N, i, none⟩) hN v
theorem OwnR.other {α β : Type} {enc : α → List Value} {fit : α → Prop} {sz : Nat} {t t' : TypeId} {base pb : Nat} {W W' : World} {a : Option Addr} {b : Nat} {L : List α} {enc' : β → List Value} {sz' : Nat} {P : List β} (h : OwnR enc fit sz t base W a b L) (hr : RowC enc' sz' W pb t' P) (hT : Turned (fun k => k = pb) W W') (ht : t ≠ t') : OwnR enc fit sz t base W' a b L :=
  h.turned hT (fun _ cur hc e => by
    obtain ⟨cur', hc', _⟩ := hr
    rw [e, hc'] at hc
    cases hc
    exact ht rfl)
theorem OwnP.other {base pb : Nat} {W W' : World} {p : ProcV} {P : List ProcV} (h : OwnP base W p) (hr : RowC encP 4 W pb 34 P) (hT : Turned (fun k => k = pb) W W') : OwnP base W' p :=
  ⟨h.vars.other hr hT (by decide), h.vo, h.steps.other hr hT (by decide), h.so⟩
theorem encP_vars (q : ProcV) (va : Option Addr) (vb vc : Nat) : ∀ r u, (encP { q with va := va, vb := vb, vo := 0, vc := vc })[r]? = some u → (r = 2 ∧ u = .slice va q.p.vars.length vc) ∨ (r ≠ 2 ∧ (encP q)[r]? = some u) := by
  intro r u hu
  rcases r with _ | _ | _ | _ | r
  · exact .inr ⟨by decide, hu⟩
  · exact .inr ⟨by decide, hu⟩
  · exact .inl ⟨rfl, by simpa [encP, ProcV.vv] using hu.symm⟩
  · exact .inr ⟨by decide, hu⟩
  · simp [encP] at hu
theorem encP_steps (q : ProcV) (sa : Option Addr) (sb sc : Nat) : ∀ r u, (encP { q with sa := sa, sb := sb, so := 0, sc := sc })[r]? = some u → (r = 3 ∧ u = .slice sa q.p.steps.length sc) ∨ (r ≠ 3 ∧ (encP q)[r]? = some u) := by
  intro r u hu
  rcases r with _ | _ | _ | _ | r
  · exact .inr ⟨by decide, hu⟩
  · exact .inr ⟨by decide, hu⟩
  · exact .inr ⟨by decide, hu⟩
  · exact .inl ⟨rfl, by simpa [encP, ProcV.sv] using hu.symm⟩
  · simp [encP] at hu
/-- The first j turned by f. -/
def upto {α : Type} (f : α → α) (j : Nat) (L : List α) : List α := (L.take j).map f ++ L.drop j
section
variable {α : Type} {f : α → α} {j : Nat} {L : List α}
theorem upto_zero : upto f 0 L = L := rfl
theorem upto_all : upto f L.length L = L.map f := by unfold upto; simp
theorem upto_length (hj : j ≤ L.length) : (upto f j L).length = L.length := by unfold upto; simp; omega
theorem upto_get (hj : j < L.length) : (upto f j L)[j]? = L[j]? := by
  unfold upto
  rw [List.getElem?_append_right (by simp; omega)]
  simp
  congr 1
  omega
theorem upto_set {q : α} (hq : L[j]? = some q) : (upto f j L).set j (f q) = upto f (j + 1) L := by
  obtain ⟨hj, rfl⟩ := List.getElem?_eq_some_iff.1 hq
  unfold upto
  rw [List.set_append_right _ _ (by simp; omega), List.take_succ_eq_append_getElem hj, List.map_append, List.append_assoc]
  congr 1
  simp only [List.length_map, List.length_take]
  rw [show j - min j L.length = 0 by omega, List.drop_eq_getElem_cons hj]
  rfl
theorem upto_mem {P : α → Prop} (h0 : ∀ x ∈ L, P x) (h1 : ∀ x ∈ L, P (f x)) : ∀ x ∈ upto f j L, P x := fun x hx => by
  unfold upto at hx
  rcases List.mem_append.1 hx with h | h
  · obtain ⟨y, hy, rfl⟩ := List.mem_map.1 h
    exact h1 y (List.mem_of_mem_take hy)
  · exact h0 x (List.mem_of_mem_drop h)
end
def noneV : ModelV := ⟨0, [], [], [], none, 0, 0, 0, none, 0, 0, 0, none, 0, 0, 0⟩
theorem own_none (base : Nat) (W : World) : OwnM base W noneV := ⟨⟨.inl rfl, Nat.zero_le _, fun x hx => by simp [noneV] at hx⟩, rfl, fun p hp => by simp [noneV] at hp, ⟨.inl rfl, Nat.zero_le _, fun x hx => by simp [noneV] at hx⟩, rfl, ⟨.inl rfl, Nat.zero_le _, fun x hx => by simp [noneV] at hx⟩, rfl⟩
/-- Is it a type of a model's lists? -/
def listT (t : TypeId) : Bool := t == 34 || t == 42 || t == 57 || t == 40 || t == 38
theorem OwnM.turned {base : Nat} {W W' : World} {x : ModelV} {R : Nat → Prop} (h : OwnM base W x) (hT : Turned R W W') (hn : ∀ b cur t, W.heap[b]? = some (.cells cur t (0, 0)) → listT t = true → ¬ R b) : OwnM base W' x :=
  ⟨h.procs.turned hT (fun _ _ hc => hn _ _ _ hc rfl), h.po, fun p hp => ⟨(h.inner p hp).vars.turned hT (fun _ _ hc => hn _ _ _ hc rfl), (h.inner p hp).vo, (h.inner p hp).steps.turned hT (fun _ _ hc => hn _ _ _ hc rfl), (h.inner p hp).so⟩, h.links.turned hT (fun _ _ hc => hn _ _ _ hc rfl), h.lo, h.events.turned hT (fun _ _ hc => hn _ _ _ hc rfl), h.eo⟩
/-- A box that is no list. -/
theorem OwnM.box {base N : Nat} {W : World} {x : ModelV} {cs : Array Value} {t : TypeId} (h : OwnM base W x) (hN : W.heap[N]? = some (.cells cs t (0, 0))) (ht : listT t = false) (i : Nat) (v : Value) : OwnM base (W.setCell ⟨N, i, none⟩ v) x :=
  h.turned (Turned.one W N i v) (fun b cur t' hc hl e => by
    rw [e, hN] at hc
    cases hc
    rw [ht] at hl
    cases hl)
theorem OwnM.setL {base : Nat} {W : World} {x : ModelV} (h : OwnM base W x) {k : Nat} {l l2 : LinkM} (hk : x.links[k]? = some l) {q : Nat} (hq : q < 5) {v : Value} (h' : ∀ r u, (encL l2)[r]? = some u → (r = q ∧ u = v) ∨ (r ≠ q ∧ (encL l)[r]? = some u)) (hf : fitL l2) : OwnM base (W.setCell ⟨x.lb, k * 5 + q, none⟩ v) { x with links := x.links.set k l2 } := by
  obtain ⟨ha, hb, hr⟩ := h.links.own.resolve_left (fun e => by rw [e] at hk; simp at hk)
  have hT := Turned.one W x.lb (k * 5 + q) v
  refine ⟨h.procs.other hr hT (by decide), h.po, fun p hp => ⟨(h.inner p hp).vars.other hr hT (by decide), (h.inner p hp).vo, (h.inner p hp).steps.other hr hT (by decide), (h.inner p hp).so⟩, ⟨.inr ⟨ha, hb, RowC.set (enc := encL) (fun _ => rfl) hr hk hq h'⟩, by rw [List.length_set]; exact h.links.small, fun y hy => ?_⟩, h.lo, h.events.other hr hT (by decide), h.eo⟩
  rcases List.mem_or_eq_of_mem_set hy with h1 | h1
  · exact h.links.fits y h1
  · rw [h1]
    exact hf
theorem OwnM.setP {base : Nat} {W : World} {x : ModelV} (h : OwnM base W x) {k : Nat} {p : ProcV} (hk : x.procs[k]? = some p) (n : Int) : OwnM base (W.setCell ⟨x.pb, k * 4 + 1, none⟩ (.int .i64 n)) { x with procs := x.procs.set k { p with p := { p.p with weight := n } } } := by
  obtain ⟨ha, hb, hr⟩ := h.procs.own.resolve_left (fun e => by rw [e] at hk; simp at hk)
  have hT := Turned.one W x.pb (k * 4 + 1) (.int .i64 n)
  refine ⟨⟨.inr ⟨ha, hb, RowC.set (enc := encP) (fun _ => rfl) hr hk (by decide) (fun r u hu => ?_)⟩, by rw [List.length_set]; exact h.procs.small, fun y hy => ?_⟩, h.po, fun y hy => ?_, h.links.other hr hT (by decide), h.lo, h.events.other hr hT (by decide), h.eo⟩
  · rcases r with _ | _ | _ | _ | r
    · exact .inr ⟨by decide, hu⟩
    · exact .inl ⟨rfl, by simpa [encP] using hu.symm⟩
    · exact .inr ⟨by decide, hu⟩
    · exact .inr ⟨by decide, hu⟩
    · simp [encP] at hu
  · rcases List.mem_or_eq_of_mem_set hy with h1 | h1
    · exact h.procs.fits y h1
    · rw [h1]
      exact h.procs.fits p (List.mem_of_getElem? hk)
  · have hi : ∀ z ∈ x.procs, OwnP base (W.setCell ⟨x.pb, k * 4 + 1, none⟩ (.int .i64 n)) z := fun z hz => (h.inner z hz).other hr hT
    rcases List.mem_or_eq_of_mem_set hy with h1 | h1
    · exact hi y h1
    · rw [h1]
      have := hi p (List.mem_of_getElem? hk)
      exact ⟨this.vars, this.vo, this.steps, this.so⟩
theorem encL_del (l : LinkM) (n : Int) : ∀ r u, (encL { l with delay := n })[r]? = some u → (r = 3 ∧ u = .int .i64 n) ∨ (r ≠ 3 ∧ (encL l)[r]? = some u) := by
  intro r u hu
  rcases r with _ | _ | _ | _ | _ | r
  · exact .inr ⟨by decide, hu⟩
  · exact .inr ⟨by decide, hu⟩
  · exact .inr ⟨by decide, hu⟩
  · exact .inl ⟨rfl, by simpa [encL] using hu.symm⟩
  · exact .inr ⟨by decide, hu⟩
  · simp [encL] at hu
theorem encL_wgh (l : LinkM) (n : Int) : ∀ r u, (encL { l with weight := n })[r]? = some u → (r = 4 ∧ u = .int .i64 n) ∨ (r ≠ 4 ∧ (encL l)[r]? = some u) := by
  intro r u hu
  rcases r with _ | _ | _ | _ | _ | r
  · exact .inr ⟨by decide, hu⟩
  · exact .inr ⟨by decide, hu⟩
  · exact .inr ⟨by decide, hu⟩
  · exact .inr ⟨by decide, hu⟩
  · exact .inl ⟨rfl, by simpa [encL] using hu.symm⟩
  · simp [encL] at hu
end Go.Proofs.YtjcmeacgfflfmaaGreat.Md
