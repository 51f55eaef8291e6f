/- Sections as they lie: rows of a tag and bytes; lists of them as they are handed in. -/
import Derived.Test.YtnkhpmpoemodiaaChecked
import Derived.WalkKit
import Derived.ProofKit
import Derived.OpenShut
import Derived.Below
import Derived.Lib.Hide
import Derived.Deep.Slices
import Derived.Test.YtnkhpmpoemodiaaHp
set_option linter.unusedVariables false
set_option linter.unusedSectionVars false
set_option linter.unusedSimpArgs false
namespace Go.Proofs.Ytnkhpmpoemodiaa.Se
open Go.RowKit Go.ChangeShapes Go.WideShapes Go.Deep

/-- A slice of rows below block B. -/
structure RowsAt {α : Type} (enc : α → List Value) (fit : α → Prop) (sz B : Nat) (w : World) (a : Option Addr) (b off len : Nat) (L : List α) : Prop where
  addr : len = 0 ∨ a = some ⟨b, off, none⟩
  length : L.length = len
  small : len ≤ maxLen
  below : len = 0 ∨ b < B
  cell : ∀ i x, L[i]? = some x → ∀ j u, (enc x)[j]? = some u → w.cell? ⟨b, off + i * sz + j, none⟩ = some u
  fits : ∀ x ∈ L, fit x
section
variable {α : Type} {enc : α → List Value} {fit : α → Prop} {sz B B' : Nat} {w w' : World} {a : Option Addr} {b off len : Nat} {L : List α}
theorem RowsAt.kept (h : RowsAt enc fit sz B w a b off len L) (hb : Below B' w w') (hB : B ≤ B') : RowsAt enc fit sz B w' a b off len L :=
  ⟨h.addr, h.length, h.small, h.below, fun i x hi j u hu => by
    have h0 := (List.getElem?_eq_some_iff.1 hi).1
    rw [hb.cell (p := ⟨b, off + i * sz + j, none⟩) (by have := h.below; have := h.length; show b < B'; omega)]
    exact h.cell i x hi j u hu, h.fits⟩
theorem RowsAt.mono (h : RowsAt enc fit sz B w a b off len L) (hB : B ≤ B') : RowsAt enc fit sz B' w a b off len L :=
  ⟨h.addr, h.length, h.small, h.below.imp id (fun e => by omega), h.cell, h.fits⟩
theorem RowsAt.on (h : RowsAt enc fit sz w.heap.size w a b off len L) (hb : Below w.heap.size w w') : RowsAt enc fit sz w'.heap.size w' a b off len L := (h.kept hb (Nat.le_refl _)).mono hb.size
theorem RowsAt.nil (hl : len = 0) (hL : L = []) : RowsAt enc fit sz B w a b off len L := ⟨.inl hl, by rw [hL, hl]; rfl, by rw [hl]; exact Nat.zero_le _, .inl hl, fun i x hi => by rw [hL] at hi; simp at hi, fun x hx => by rw [hL] at hx; simp at hx⟩
end
/-- A section, and where its bytes lie. -/
structure SecM where
  tag : Int
  body : List Int
deriving DecidableEq
structure SecV where
  m : SecM
  ba : Option Addr
  bb : Nat
  bo : Nat
  bc : Nat
def SecV.bv (x : SecV) : Value := .slice x.ba x.m.body.length x.bc
def encS (x : SecV) : List Value := [.int .u8 x.m.tag, x.bv]
def fitS (x : SecV) : Prop := (Lit.int .u8 x.m.tag).wf = true
structure SecIn (B : Nat) (w : World) (x : SecV) : Prop where
  row : IntsAt .u8 B w x.ba x.bb x.bo x.m.body.length x.m.body
  nil : x.ba = none → x.m.body.length = 0 ∧ x.bc = 0
  cap : x.m.body.length ≤ x.bc
theorem SecIn.kept {B B' : Nat} {w w' : World} {x : SecV} (h : SecIn B w x) (hb : Below B' w w') (hB : B ≤ B') : SecIn B w' x := ⟨h.row.kept hb hB, h.nil, h.cap⟩
theorem SecIn.mono {B B' : Nat} {w : World} {x : SecV} (h : SecIn B w x) (hB : B ≤ B') : SecIn B' w x := ⟨h.row.mono hB, h.nil, h.cap⟩
theorem SecIn.on {w w' : World} {x : SecV} (h : SecIn w.heap.size w x) (hb : Below w.heap.size w w') : SecIn w'.heap.size w' x := (h.kept hb (Nat.le_refl _)).mono hb.size
/-- A list of sections as a slice. -/
structure SecsAt (B : Nat) (w : World) (a : Option Addr) (b off len cap : Nat) (L : List SecV) : Prop where
  rows : RowsAt encS fitS 2 B w a b off len L
  inner : ∀ x ∈ L, SecIn B w x
  nil : a = none → len = 0 ∧ cap = 0
  cap : len ≤ cap
section
variable {B B' : Nat} {w w' : World} {a : Option Addr} {b off len cap : Nat} {L : List SecV}
theorem SecsAt.kept (h : SecsAt B w a b off len cap L) (hb : Below B' w w') (hB : B ≤ B') : SecsAt B w' a b off len cap L := ⟨h.rows.kept hb hB, fun x hx => (h.inner x hx).kept hb hB, h.nil, h.cap⟩
theorem SecsAt.mono (h : SecsAt B w a b off len cap L) (hB : B ≤ B') : SecsAt B' w a b off len cap L := ⟨h.rows.mono hB, fun x hx => (h.inner x hx).mono hB, h.nil, h.cap⟩
theorem SecsAt.on (h : SecsAt w.heap.size w a b off len cap L) (hb : Below w.heap.size w w') : SecsAt w'.heap.size w' a b off len cap L := (h.kept hb (Nat.le_refl _)).mono hb.size
end
section
variable {H : Type} {enc : TypeId × Value → H} {W : World} {spare : Nat → Bool}
theorem open_rows {α : Type} {en : α → List Value} {fit R : α → Prop} {sz : Nat} {t e : TypeId} (ht : Try.prog.underlying t = some (.slice e)) (hc : Try.prog.cellsOf e = sz) (hsz : ∀ x, (en x).length = sz) (h0 : 0 < sz)
    (hel : ∀ n cs x, DataW.trod enc Try.prog W 0 (fun _ => true) true n e cs = some x → cs.length = sz → ∃ o, cs = en o ∧ R o) (hRf : ∀ o, R o → fit o) {fuel : Nat} {cs : List Value} {x : DataW H × List MemPlace}
    (h : DataW.trod enc Try.prog W 0 (fun _ => true) true fuel t cs = some x) : ∃ a len cap b off L, cs = [.slice a len cap] ∧ RowsAt en fit sz W.heap.size W a b off len L ∧ ∀ o ∈ L, R o := by
  rcases open_slice ht h with ⟨hcs, _⟩ | ⟨x, l, c, m, n, D, Pl, hcs, hb, hl, hm, hmm, hx, hi⟩
  · exact ⟨none, 0, 0, 0, 0, [], hcs, RowsAt.nil rfl rfl, fun o ho => by simp at ho⟩
  · rw [if_pos rfl] at hmm
    subst hmm
    rw [hc] at hi
    have hall : ∀ i : Fin l, ∃ o : α, W.cells? 0 (x.add (i.val * sz)) sz = some (en o) ∧ R o := by
      intro i
      obtain ⟨cs', hc', ht'⟩ := hi i.val (by have := i.isLt; omega)
      obtain ⟨_, hcl, _⟩ := World.cells?_some hc'
      obtain ⟨o, rfl, ho⟩ := hel _ _ _ ht' hcl
      exact ⟨o, hc', ho⟩
    obtain ⟨f, hf'⟩ := Classical.axiomOfChoice hall
    obtain ⟨b, off, spot⟩ := x
    by_cases hl0 : l = 0
    · subst hl0
      exact ⟨_, 0, _, 0, 0, [], hcs, RowsAt.nil rfl rfl, fun o ho => by simp at ho⟩
    · have hz := (World.cells?_some (hf' ⟨0, by omega⟩).1).2.2 0 h0
      have hz2 : (en (f ⟨0, by omega⟩))[0]? = some ((en (f ⟨0, by omega⟩))[0]'(by rw [hsz]; exact h0)) := List.getElem?_eq_getElem _
      rw [hz2] at hz
      have hspot : spot = none := by simpa [Addr.add] using World.cell?_spot hz
      subst hspot
      have hblk : b < W.heap.size := by
        have := World.block_lt_of_cell? _ _ hz
        simpa [Addr.add] using this
      refine ⟨_, l, _, b, off, List.ofFn f, hcs, ⟨.inr rfl, List.length_ofFn, by omega, .inr hblk, fun i o hio j u hju => ?_, fun o ho => ?_⟩, fun o ho => ?_⟩
      · obtain ⟨hil, hio'⟩ := List.getElem?_eq_some_iff.1 hio
        rw [List.length_ofFn] at hil
        rw [List.getElem_ofFn] at hio'
        subst hio'
        have hj : j < sz := by rw [← hsz (f ⟨i, hil⟩)]; exact (List.getElem?_eq_some_iff.1 hju).1
        have hcs := (World.cells?_some (hf' ⟨i, hil⟩).1).2.2 j hj
        rw [hju] at hcs
        simpa only [addr_add] using hcs
      · rw [List.mem_ofFn] at ho
        obtain ⟨i, rfl⟩ := ho
        exact hRf _ (hf' i).2
      · rw [List.mem_ofFn] at ho
        obtain ⟨i, rfl⟩ := ho
        exact (hf' i).2
theorem cellsSec : Try.prog.cellsOf 70 = 2 := by kernel_rfl
set_option maxRecDepth 100000 in
theorem sec_of {n : Nat} {cs : List Value} {x : DataW H × List MemPlace} (h : DataW.trod enc Try.prog W 0 (fun _ => true) true n 70 cs = some x) (hl : cs.length = 2) : ∃ o : SecV, cs = encS o ∧ fitS o ∧ SecIn W.heap.size W o := by
  obtain ⟨xs, n, _, _, _, hxl, hf⟩ := DataW.trod_struct Try.underlying70 h
  match cs, hl with
  | [c0, c1], _ =>
  match xs, hxl with
  | [y0, y1], _ =>
  have h0 := hf 0 _ rfl
  have h1 := hf 1 _ rfl
  simp only [List.getElem?_cons_zero, List.getElem?_cons_succ] at h0 h1
  obtain ⟨k, hk, _, hkw⟩ := DataW.trod_int Try.underlying5 h0
  cases hk
  rcases open_ints Try.underlying45 Try.underlying5 (by kernel_rfl) h1 with ⟨hcs, _⟩ | ⟨x, l, c, zs, hcs, _, hl, hm, hz, _, hcell, hwz⟩
  · cases hcs
    exact ⟨⟨⟨k, []⟩, none, 0, 0, 0⟩, rfl, hkw, ⟨.inl rfl, rfl, Nat.zero_le _, .inl rfl, fun i hi => absurd hi (Nat.not_lt_zero _), fun n hn => by simp at hn⟩, fun _ => ⟨rfl, rfl⟩, Nat.le_refl _⟩
  · cases hcs
    have hr : IsRow .u8 W (some x) l c zs := .inr ⟨_, rfl, hl, hm, by simpa using hz, hcell, hwz⟩
    obtain ⟨b, off, hi⟩ := hr.ints
    have hlen : (zs.take l).length = l := hi.length
    refine ⟨⟨⟨k, zs.take l⟩, some x, b, off, c⟩, by simp [encS, SecV.bv, hlen], hkw, ?_, fun e => (by cases e), by simp [hlen]; exact hl⟩
    simp only [hlen]
    exact hi
end
/-- What a walk is told of a list of sections that came in. -/
def IsSecs (w : World) (a : Option Addr) (len cap : Nat) (L : List SecV) : Prop := ∃ b off, SecsAt w.heap.size w a b off len cap L
set_option maxRecDepth 100000 in
theorem open_secs {H : Type} {enc : TypeId × Value → H} {W : World} {a : Option Addr} {len cap : Nat} {d : DataW H} {p : List MemPlace}
    (h : DataW.Trod enc Try.prog W 0 (fun _ => true) true 61 (.slice a len cap) d p) : ∃ L, IsSecs W a len cap L := by
  obtain ⟨fuel, hf⟩ := h
  have hcap : (a = none → len = 0 ∧ cap = 0) ∧ len ≤ cap := by
    rcases open_slice Try.underlying61 hf with ⟨hcs, _⟩ | ⟨x, l, c, m, n, D, Pl, hcs, hb, hl, hm, hmm, hx, hi⟩
    · simp [Value.cells] at hcs
      obtain ⟨rfl, rfl, rfl⟩ := hcs
      exact ⟨fun _ => ⟨rfl, rfl⟩, Nat.le_refl _⟩
    · simp [Value.cells] at hcs
      obtain ⟨rfl, rfl, rfl⟩ := hcs
      exact ⟨fun e => (by cases e), hl⟩
  obtain ⟨a', len', cap', b, off, L, hv, hL, hi⟩ := open_rows (en := encS) (fit := fitS) (R := fun o => fitS o ∧ SecIn W.heap.size W o) Try.underlying61 cellsSec (fun _ => rfl) (by decide) (fun n cs x => sec_of) (fun _ h => h.1) (cs := [.slice a len cap]) hf
  cases hv
  exact ⟨L, b, off, hL, fun o ho => (hi o ho).2, hcap.1, hcap.2⟩
end Go.Proofs.Ytnkhpmpoemodiaa.Se
