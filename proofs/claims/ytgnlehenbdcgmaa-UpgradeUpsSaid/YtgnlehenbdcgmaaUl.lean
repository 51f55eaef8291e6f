/- Contract: all ways up; up to so many of them, gathered. -/
import Derived.Test.YtgnlehenbdcgmaaUj
import Derived.Test.YtgnlehenbdcgmaaSx
set_option linter.unusedVariables false
set_option linter.unusedSectionVars false
set_option linter.unusedSimpArgs false
namespace Go.Proofs.Ytgnlehenbdcgmaa.Md
open Go.RowKit Go.Shelf

attribute [local go_sem] Oper.semAt_some
theorem ways_any {w : World} {x : ModelV} (h : ModelAt w.heap.size w x) (hs : Sized x.m) : Calls Try.prog 58 #[.agg #[.int .i64 x.ver, .slice x.pa x.procs.length x.pc, .slice x.la x.links.length x.lc, .slice x.ea x.events.length x.ec]] w fun e w' => ∃ (B : Nat) (x1 : ModelV), e = .returned (.func (.func 87) #[] #[.pointer (some ⟨B, 0, none⟩)]) ∧ w'.heap[B]? = some (.cells #[.int .i64 x1.ver, .slice x1.pa x1.procs.length x1.pc, .slice x1.la x1.links.length x1.lc, .slice x1.ea x1.events.length x1.ec] 26 (0, 0)) ∧ w.heap.size ≤ B ∧ x1.m = x.m ∧ OwnM w.heap.size w' x1 ∧ Below w.heap.size w w' := by
  have hb := below_one w (.cells #[.int .i64 x.ver, .slice x.pa x.procs.length x.pc, .slice x.la x.links.length x.lc, .slice x.ea x.events.length x.ec] 26)
  have HX := Lib.hid (heap_new (w := w) (.cells #[.int .i64 x.ver, .slice x.pa x.procs.length x.pc, .slice x.la x.links.length x.lc, .slice x.ea x.events.length x.ec] 26) rfl)
  have HB := Lib.hid hb
  have HC := Lib.hid (copy_any (h.on hb) hs)
  clear h hs hb
  go_enter Try.func58, Try.ntmps58
  go_upto_region 1 with fail
  generalize w.alloc (.cells #[.int .i64 x.ver, .slice x.pa x.procs.length x.pc, .slice x.la x.links.length x.lc, .slice x.ea x.events.length x.ec] 26) = w1 at *
  have c0 : w1.cell? ⟨w.heap.size, 0, none⟩ = some (.int .i64 x.ver) := heap_cell HX.out rfl
  have c1 : w1.cell? ⟨w.heap.size, 1, none⟩ = some (.slice x.pa x.procs.length x.pc) := heap_cell HX.out rfl
  have c2 : w1.cell? ⟨w.heap.size, 2, none⟩ = some (.slice x.la x.links.length x.lc) := heap_cell HX.out rfl
  have c3 : w1.cell? ⟨w.heap.size, 3, none⟩ = some (.slice x.ea x.events.length x.ec) := heap_cell HX.out rfl
  go_wp2_with fail
  refine HC.out.mono ?_
  clear HC c0 c1 c2 c3
  rintro e w2 ⟨x1, rfl, hm, hown, hb⟩
  have HO := Lib.hid hown
  have HM := Lib.hid hm
  have HB2 := Lib.hid hb
  clear hown hm hb
  go_wp2
  go_ret
  have hb3 := below_one w2 (.cells #[.int .i64 x1.ver, .slice x1.pa x1.procs.length x1.pc, .slice x1.la x1.links.length x1.lc, .slice x1.ea x1.events.length x1.ec] 26)
  have hz1 := HB.out.size
  have hz2 := HB2.out.size
  exact ⟨w2.heap.size, x1, rfl, heap_new _ rfl, by omega, HM.out, (HO.out.mono HB.out.size).on hb3, (HB.out.trans (HB2.out.mono hz1)).trans (hb3.mono (by omega))⟩
def encM (y : ModelV) : List Value := [.int .i64 y.ver, .slice y.pa y.procs.length y.pc, .slice y.la y.links.length y.lc, .slice y.ea y.events.length y.ec]
def fitM (_ : ModelV) : Prop := True
def zMd : Array Value := #[.int .i64 0, .slice none 0 0, .slice none 0 0, .slice none 0 0]
theorem Try.infoMM : (Try.prog.info? 26).map (fun i => (i.zero, i.size, i.bytes)) = some (some (.agg zMd), 4, 80) := by kernel_rfl
/-- Up to so many ways, gathered. -/
def WaysP (w : World) (D : List ModelM) (e : Ending) (w' : World) : Prop := ∃ (L : List ModelV) (a : Option Addr) (c g : Nat), e = .returned (.slice a L.length c) ∧ RowsAt encM fitM 4 w'.heap.size w' a g 0 L.length L ∧ (∀ y ∈ L, ModelAt w'.heap.size w' y ∧ Sized y.m) ∧ L.map ModelV.m = D ∧ Below w.heap.size w w'
theorem upsD_len : ∀ (n : Nat) (m : ModelM) (f : Int × Int), (upsD n m f).length ≤ n + 1
  | 0, m, f => by simp [upsD]
  | n + 1, m, f => by
    unfold upsD
    split
    · have := upsD_len n (upR m).1 (upR m).2
      simp
      omega
    · simp
theorem waysL_len : ∀ L : List (ModelM × Int × Int), (waysL L).length ≤ L.length
  | [] => Nat.le_refl _
  | (m, e, ea) :: r => by
    unfold waysL
    split
    · have := waysL_len r
      simp
      omega
    · simp
theorem waysD_len (m : ModelM) : (waysD m).length ≤ 4 := Nat.le_trans (waysL_len _) (upsD_len 3 m _)
theorem gath_at {A B : World} {base : Nat} {e : TypeId} {size : Nat} {v : Value} {n : Nat} {xs : List Value} (h : Gath A base e size v n xs) (hs : ∀ g o, v.ownBlock = some g → o.isCells = true → A.heap[g]? = some o → B.heap[g]? = some o) : Gath B base e size v n xs := by
  rcases h with h | h
  · exact .inl h
  · refine .inr ⟨h.1, ?_⟩
    rcases h.2 with hn | ⟨g, cap, cur, hv, hb, hc, rest⟩
    · exact .inl hn
    · exact .inr ⟨g, cap, cur, hv, hb, hs g _ (by rw [hv]; rfl) rfl hc, rest⟩
/-- What has been gathered, and the boxes. -/
structure WyI (w0 : World) (A Z : Nat) (most : Int) (r : Value) (S : Nat → Prop) (pre : List ModelV) (W : World) (v : Value) : Prop where
  b1 : W.heap[A + 1]? = some (.cells #[.int .i64 most] 3 (0, 0))
  b2 : W.heap[A + 1 + 1]? = some (.cells #[r] 53 (0, 0))
  b4 : W.heap[A + 1 + 1 + 1 + 1]? = some (.cells #[v] 53 (0, 0))
  row : Gath W (Z + 2) 26 4 v pre.length (pre.flatMap encM)
  own : ∀ g, v.ownBlock = some g → ¬ S g ∧ g < W.heap.size
  lst : ∀ g, v.ownBlock = some g → g = A + 1 + 1 + 1 ∨ Z + 2 ≤ g
  models : ∀ y ∈ pre, AtW S y W
  below : Below A w0 W
  size : Z + 2 ≤ W.heap.size
section
variable {w0 : World} {A Z : Nat} {most : Int} {r v : Value} {S S0 : Nat → Prop} {pre : List ModelV} {W W' : World}
theorem WyI.put (h : WyI w0 A Z most r S pre W v) (hA : A ≤ Z) {l : Nat} (hl : Z ≤ l) {o : Obj} (o' : Obj) (ho : W.heap[l]? = some o) (hc : o.isCells = false) : WyI w0 A Z most r S pre (W.putObj l o') v := by
  have hs := CellsStay.put o' ho hc
  exact ⟨hs.2 _ _ h.b1 rfl, hs.2 _ _ h.b2 rfl, hs.2 _ _ h.b4 rfl, gath_at h.row (fun g q _ hq hg => hs.2 _ _ hg hq), fun g hg => ⟨(h.own g hg).1, Nat.lt_of_lt_of_le (h.own g hg).2 hs.1⟩, h.lst, fun y hy => (h.models y hy).stay hs, h.below.trans ⟨rfl, rfl, rfl, by simp, fun k hk => World.putObj_heap_other (by omega)⟩, Nat.le_trans h.size hs.1⟩
theorem WyI.turned (h : WyI w0 A Z most r S pre W v) (hT : Turned (OwnB S0 S) W W') (hall : ∀ x' ∈ pre, ∀ S', AtW S' x' W → AtW S' x' W') (hok : ∀ k, S k → S0 k ∨ Z + 2 ≤ k) (hA : A + 5 ≤ Z) (u : Nat) : WyI w0 A Z most r (fun k => S k ∨ (W.heap.size ≤ k ∧ k < u)) pre W' v := by
  have hb : ∀ k, k < Z + 2 → ¬ OwnB S0 S k := fun k hk h => by
    rcases hok k h.1 with h1 | h1
    · exact h.2 h1
    · omega
  have hz := hT.size
  refine ⟨hT.old h.b1 (hb _ (by omega)), hT.old h.b2 (hb _ (by omega)), hT.old h.b4 (hb _ (by omega)), gath_at h.row (fun g q hg _ hq => hT.old hq (fun hS => (h.own g hg).1 hS.1)), fun g hg => ⟨?_, by have := (h.own g hg).2; omega⟩, h.lst, fun y hy => (hall y hy S (h.models y hy)).mono (fun k _ hk => .inl hk), h.below.trans (Turned.to_b hT (fun k hk => hb k (by omega)) (by have := h.size; omega)), by have := h.size; omega⟩
  rintro (h1 | h1)
  · exact (h.own g hg).1 h1
  · have := (h.own g hg).2
    omega
theorem WyI.on (h : WyI w0 A Z most r S pre W v) (hb : Below W.heap.size W W') (hA : A + 5 ≤ Z) : WyI w0 A Z most r S pre W' v := by
  have hs := CellsStay.below hb
  exact ⟨hs.2 _ _ h.b1 rfl, hs.2 _ _ h.b2 rfl, hs.2 _ _ h.b4 rfl, gath_at h.row (fun g q _ hq hg => hs.2 _ _ hg hq), fun g hg => ⟨(h.own g hg).1, Nat.lt_of_lt_of_le (h.own g hg).2 hs.1⟩, h.lst, fun y hy => (h.models y hy).stay hs, h.below.trans (hb.mono (by have := h.size; omega)), Nat.le_trans h.size hs.1⟩
/-- The answer's box is turned. -/
theorem WyI.res (h : WyI w0 A Z most r S pre W v) (hok : ∀ k, S k → S0 k ∨ Z + 2 ≤ k) (hS0 : ∀ k, S0 k → A + 5 ≤ k) (hA : A + 5 ≤ Z) (r' : Value) : WyI w0 A Z most r' S pre (W.setCell ⟨A + 1 + 1, 0, none⟩ r') v ∧ KeepS S W (W.setCell ⟨A + 1 + 1, 0, none⟩ r') ∧ (∀ j, Z ≤ j → (W.setCell ⟨A + 1 + 1, 0, none⟩ r').heap[j]? = W.heap[j]?) := by
  have hset : ∀ j, j ≠ A + 1 + 1 → (W.setCell ⟨A + 1 + 1, 0, none⟩ r').heap[j]? = W.heap[j]? := fun j hj => Below.heap_setCell W ⟨A + 1 + 1, 0, none⟩ r' j hj
  have hsz : (W.setCell ⟨A + 1 + 1, 0, none⟩ r').heap.size = W.heap.size := size_set _ _ _
  have hbw : Below A W (W.setCell ⟨A + 1 + 1, 0, none⟩ r') := (Below.refl _ _).setCell (p := ⟨A + 1 + 1, 0, none⟩) (by show A ≤ A + 1 + 1; omega) _
  have hkeep : KeepS S W (W.setCell ⟨A + 1 + 1, 0, none⟩ r') := ⟨hbw.os, hbw.tape, hbw.output, by omega, fun k hk hn => hset k (fun e => hn (fun hk' => by
    rcases hok k hk' with h1 | h1
    · have := hS0 k h1; omega
    · omega))⟩
  refine ⟨⟨(hset _ (by omega)).trans h.b1, heap_set h.b2 0 r', (hset _ (by omega)).trans h.b4, gath_at h.row (fun g q hg _ hq => (hset g (fun e => by have := h.lst g hg; omega)).trans hq), fun g hg => ⟨(h.own g hg).1, by rw [hsz]; exact (h.own g hg).2⟩, h.lst, fun y hy => ⟨(h.models y hy).1.keep hkeep (h.models y hy).2.2, (h.models y hy).2⟩, h.below.trans hbw, by rw [hsz]; exact h.size⟩, hkeep, fun j hj => hset j (by omega)⟩
/-- One more is appended. -/
theorem WyI.app {x : ModelV} {w1 : World} {tmp : Obj} {row : Option Nat} {g cap : Nat} (h : WyI w0 A Z most r S pre W v) (hx : AtW S x W) (hok : ∀ k, S k → S0 k ∨ Z + 2 ≤ k) (hS0 : ∀ k, S0 k → A + 5 ≤ k) (hS : ∀ k, S k → k < W.heap.size) (hA : A + 5 ≤ Z)
    (hown : w1.ownsRow (Z + 2) 26 4 (.slice (some ⟨g, 0, none⟩) (pre.length + 1) cap) (pre.length + 1) (pre.flatMap encM ++ encM x)) (hgrow : (W.alloc tmp).grownBy w1 row) (hrow : ∀ r, row = some r → (W.alloc tmp).ownsRow (Z + 2) 26 4 v pre.length (pre.flatMap encM) ∧ v.ownBlock = some r)
    (hg : ((W.alloc tmp).ownsRow (Z + 2) 26 4 v pre.length (pre.flatMap encM) ∧ v.ownBlock = some g) ∨ (W.alloc tmp).heap.size ≤ g) :
    (w1.heap[A + 1]? = some (.cells #[.int .i64 most] 3 (0, 0)) ∧ w1.heap[A + 1 + 1]? = some (.cells #[r] 53 (0, 0)) ∧ w1.heap[A + 1 + 1 + 1 + 1]? = some (.cells #[v] 53 (0, 0))) ∧
    WyI w0 A Z most r S (pre ++ [x]) (w1.setCell ⟨A + 1 + 1 + 1 + 1, 0, none⟩ (.slice (some ⟨g, 0, none⟩) (pre.length + 1) cap)) (.slice (some ⟨g, 0, none⟩) (pre.length + 1) cap) ∧ KeepS S W (w1.setCell ⟨A + 1 + 1 + 1 + 1, 0, none⟩ (.slice (some ⟨g, 0, none⟩) (pre.length + 1) cap)) ∧
    (∀ j, j = Z ∨ j = Z + 1 → (w1.setCell ⟨A + 1 + 1 + 1 + 1, 0, none⟩ (.slice (some ⟨g, 0, none⟩) (pre.length + 1) cap)).heap[j]? = W.heap[j]?) := by
  have hs := h.size
  have hr : ∀ r, row = some r → Z + 2 ≤ r ∧ ¬ S r := fun r e => by
    obtain ⟨h1, h2⟩ := hrow r e
    refine ⟨?_, (h.own r h2).1⟩
    rcases h1.2 with ⟨hv, _⟩ | ⟨g', cap, cur, hv, hb, _⟩
    · rw [hv] at h2
      simp [Value.ownBlock] at h2
    · rw [hv] at h2
      have : g' = r := by simpa [Value.ownBlock] using h2
      omega
  have hgZ : Z + 2 ≤ g ∧ w1.heap[g]?.isSome = true := by
    rcases hown.2 with ⟨hv, _⟩ | ⟨g', cap', cur, hv, hb, hc, _⟩
    · cases hv
    · cases hv
      exact ⟨hb, by rw [hc]; rfl⟩
  have hgl : g < w1.heap.size := by
    have := hgZ.2
    rcases hq : w1.heap[g]? with _ | q
    · rw [hq] at this; cases this
    · exact heap_lt hq
  have hblk : ∀ j, j < W.heap.size → some j ≠ row → w1.heap[j]? = W.heap[j]? := fun j h1 h2 => by
    rw [hgrow.block j (by simp; omega) h2]
    exact heap_alloc_old W tmp h1
  have hlow : ∀ j, j < Z + 2 → w1.heap[j]? = W.heap[j]? := fun j hj => hblk j (by omega) (fun e => by have := (hr j e.symm).1; omega)
  have hset : ∀ j, j ≠ A + 1 + 1 + 1 + 1 → (w1.setCell ⟨A + 1 + 1 + 1 + 1, 0, none⟩ (.slice (some ⟨g, 0, none⟩) (pre.length + 1) cap)).heap[j]? = w1.heap[j]? := fun j hj => Below.heap_setCell w1 ⟨A + 1 + 1 + 1 + 1, 0, none⟩ _ j hj
  have q1 := (hlow (A + 1) (by omega)).trans h.b1
  have q2 := (hlow (A + 1 + 1) (by omega)).trans h.b2
  have q4 := (hlow (A + 1 + 1 + 1 + 1) (by omega)).trans h.b4
  have hsz1 : W.heap.size + 1 ≤ w1.heap.size := by have := hgrow.size; simpa using this
  have hsz2 : (w1.setCell ⟨A + 1 + 1 + 1 + 1, 0, none⟩ (.slice (some ⟨g, 0, none⟩) (pre.length + 1) cap)).heap.size = w1.heap.size := size_set _ _ _
  have hbw : Below A W (w1.setCell ⟨A + 1 + 1 + 1 + 1, 0, none⟩ (.slice (some ⟨g, 0, none⟩) (pre.length + 1) cap)) := (((Below.refl A W).alloc (by omega) tmp).grown hgrow (by simp; omega) (fun r e => by have := (hr r e).1; omega)).setCell (p := ⟨A + 1 + 1 + 1 + 1, 0, none⟩) (by show A ≤ A + 1 + 1 + 1 + 1; omega) _
  have hkeep : KeepS S W (w1.setCell ⟨A + 1 + 1 + 1 + 1, 0, none⟩ (.slice (some ⟨g, 0, none⟩) (pre.length + 1) cap)) := ⟨hbw.os, hbw.tape, hbw.output, by omega, fun k hk hn => by
    have hSk : S k := Classical.byContradiction hn
    have hne : k ≠ A + 1 + 1 + 1 + 1 := by
      rcases hok k hSk with h1 | h1
      · have := hS0 k h1; omega
      · omega
    rw [hset k hne]
    exact hblk k hk (fun e => (hr k e.symm).2 hSk)⟩
  refine ⟨⟨q1, q2, q4⟩, ⟨(hset _ (by omega)).trans q1, (hset _ (by omega)).trans q2, heap_set q4 0 _, ?_, ?_, ?_, ?_, h.below.trans hbw, by omega⟩, hkeep, fun j hj => (hset j (by omega)).trans (hlow j (by omega))⟩
  · rw [List.length_append, List.flatMap_append, show List.flatMap encM [x] = encM x by simp]
    exact gath_at (.inr hown) (fun g' q hg' _ hq => (hset g' (fun e => by
      have : g = g' := by simpa [Value.ownBlock] using hg'
      omega)).trans hq)
  · intro g' hg'
    have : g = g' := by simpa [Value.ownBlock] using hg'
    subst this
    refine ⟨?_, by omega⟩
    rcases hg with hg | hg
    · exact (h.own g hg.2).1
    · intro hk
      have := hS g hk
      simp at hg
      omega
  · intro g' hg'
    have : g = g' := by simpa [Value.ownBlock] using hg'
    exact .inr (by omega)
  · intro y hy
    rcases List.mem_append.1 hy with hy | hy
    · exact ⟨(h.models y hy).1.keep hkeep (h.models y hy).2.2, (h.models y hy).2⟩
    · rw [List.mem_singleton.1 hy]
      exact ⟨hx.1.keep hkeep hx.2.2, hx.2⟩
end
theorem cell_row3 (W : World) (l : List Value) (t : TypeId) : ∀ j u, l[j]? = some u → (W.alloc (.cells l.toArray t)).cell? ((⟨W.heap.size, 0, none⟩ : Addr).add j) = some u := fun j u h => by
  have := heap_cell (heap_new (w := W) (.cells l.toArray t) rfl) (i := j) (v := u) (by simpa using h)
  have e : (⟨W.heap.size, 0, none⟩ : Addr).add j = ⟨W.heap.size, j, none⟩ := by
    unfold Addr.add
    by_cases h : j = 0
    · subst h; simp
    · simp [h]
  rw [e]
  exact this
theorem encM_len (y : ModelV) : (encM y).length = 4 := rfl
/-- What is answered. -/
theorem WyI.fin {w : World} {Z : Nat} {most : Int} {v : Value} {S : Nat → Prop} {pre : List ModelV} {W : World} {D : List ModelM} (h : WyI w w.heap.size Z most v S pre W v) (hl : pre.length ≤ 4) (hD : pre.map ModelV.m = D) : WaysP w D (.returned v) W := by
  obtain ⟨a, c, g, rfl, hr⟩ := rows_gath (fit := fitM) encM_len h.row (by unfold maxLen; omega) (fun _ _ => trivial)
  exact ⟨pre, a, c, g, rfl, hr, fun y hy => ⟨(h.models y hy).1, (h.models y hy).2.1⟩, hD, h.below⟩
theorem take_done {D : List ModelM} {pre : List ModelV} {most : Int} (h : pre.map ModelV.m = D) (hp : (pre.length : Int) < most) : pre.map ModelV.m = D.take most.toNat := by
  rw [← h, List.take_of_length_le (by simp; omega)]
theorem take_stop {D : List ModelM} {pre : List ModelV} {most : Int} (h : pre.map ModelV.m <+: D) (hp : (pre.length : Int) = most) : pre.map ModelV.m = D.take most.toNat := by
  obtain ⟨t, rfl⟩ := h
  rw [← hp, Int.toNat_natCast]
  rw [show pre.length = (pre.map ModelV.m).length by simp, List.take_left]

set_option maxRecDepth 100000 in
set_option maxHeartbeats 4000000 in
theorem lways_any {w : World} {x : ModelV} (h : ModelAt w.heap.size w x) (hs : Sized x.m) (most : Int) : Calls Try.prog 30 #[.agg #[.int .i64 x.ver, .slice x.pa x.procs.length x.pc, .slice x.la x.links.length x.lc, .slice x.ea x.events.length x.ec], .int .i64 most] w (WaysP w ((waysD x.m).take most.toNat)) := by
  obtain ⟨i0, hi0, hz0, hz1, hz2⟩ := info_parts Try.infoMM
  have HI := Lib.hid hi0
  have HZ0 := Lib.hid hz0
  have HZ1 := Lib.hid hz1
  have HZ2 := Lib.hid hz2
  clear hi0 hz0 hz1 hz2
  have hb5 : Below w.heap.size w (((((w.alloc (.cells #[.int .i64 x.ver, .slice x.pa x.procs.length x.pc, .slice x.la x.links.length x.lc, .slice x.ea x.events.length x.ec] 26)).alloc (.cells #[.int .i64 most] 3)).alloc (.cells #[.slice none 0 0] 53)).alloc (.cells #[] 26)).alloc (.cells #[.slice (some ⟨w.heap.size + 1 + 1 + 1, 0, none⟩) 0 0] 53)) := (((((Below.refl _ w).alloc (Nat.le_refl _) _).alloc (by simp) _).alloc (by simp; omega) _).alloc (by simp; omega) _).alloc (by simp; omega) _
  have q1 : (((((w.alloc (.cells #[.int .i64 x.ver, .slice x.pa x.procs.length x.pc, .slice x.la x.links.length x.lc, .slice x.ea x.events.length x.ec] 26)).alloc (.cells #[.int .i64 most] 3)).alloc (.cells #[.slice none 0 0] 53)).alloc (.cells #[] 26)).alloc (.cells #[.slice (some ⟨w.heap.size + 1 + 1 + 1, 0, none⟩) 0 0] 53)).heap[w.heap.size + 1]? = some (.cells #[.int .i64 most] 3 (0, 0)) := heap_alloc (heap_alloc (heap_alloc (heap_new _ (by simp)) _) _) _
  have q2 : (((((w.alloc (.cells #[.int .i64 x.ver, .slice x.pa x.procs.length x.pc, .slice x.la x.links.length x.lc, .slice x.ea x.events.length x.ec] 26)).alloc (.cells #[.int .i64 most] 3)).alloc (.cells #[.slice none 0 0] 53)).alloc (.cells #[] 26)).alloc (.cells #[.slice (some ⟨w.heap.size + 1 + 1 + 1, 0, none⟩) 0 0] 53)).heap[w.heap.size + 1 + 1]? = some (.cells #[.slice none 0 0] 53 (0, 0)) := heap_alloc (heap_alloc (heap_new _ (by simp)) _) _
  have q4 : (((((w.alloc (.cells #[.int .i64 x.ver, .slice x.pa x.procs.length x.pc, .slice x.la x.links.length x.lc, .slice x.ea x.events.length x.ec] 26)).alloc (.cells #[.int .i64 most] 3)).alloc (.cells #[.slice none 0 0] 53)).alloc (.cells #[] 26)).alloc (.cells #[.slice (some ⟨w.heap.size + 1 + 1 + 1, 0, none⟩) 0 0] 53)).heap[w.heap.size + 1 + 1 + 1 + 1]? = some (.cells #[.slice (some ⟨w.heap.size + 1 + 1 + 1, 0, none⟩) 0 0] 53 (0, 0)) := heap_new _ (by simp)
  have hz5 : (((((w.alloc (.cells #[.int .i64 x.ver, .slice x.pa x.procs.length x.pc, .slice x.la x.links.length x.lc, .slice x.ea x.events.length x.ec] 26)).alloc (.cells #[.int .i64 most] 3)).alloc (.cells #[.slice none 0 0] 53)).alloc (.cells #[] 26)).alloc (.cells #[.slice (some ⟨w.heap.size + 1 + 1 + 1, 0, none⟩) 0 0] 53)).heap.size = w.heap.size + 1 + 1 + 1 + 1 + 1 := by simp
  have HWy := Lib.hid (ways_any (h.on hb5) hs)
  have HSz := Lib.hid hs
  have HB5 := Lib.hid hb5
  have HQ1 := Lib.hid q1
  have HQ2 := Lib.hid q2
  have HQ4 := Lib.hid q4
  have HZ5 := Lib.hid hz5
  clear h hs hb5 q1 q2 q4 hz5
  refine (callsIn_wide (n := 3)).1 ?_
  refine callsIn_of_wp_marks Try.func30 rfl trivial ?_ rfl
  simp only [Try.ntmps30, List.size_toArray, List.length_cons, List.length_nil, Nat.reduceAdd, Nat.reduceSub, Array.replicate_succ, Array.replicate_zero, List.push_toArray, List.append_toArray, List.nil_append, List.cons_append]
  refine wpIn_wide.2 ?_
  by_cases hmost : most ≤ 0
  · have hmb : decide (most ≤ 0) = true := by simpa using hmost
    clear HWy HI HZ0 HZ1 HZ2
    have h0 : List.take most.toNat (waysD x.m) = [] := by rw [show most.toNat = 0 by omega]; rfl
    have hb6 : Below w.heap.size w (((((w.alloc (.cells #[.int .i64 x.ver, .slice x.pa x.procs.length x.pc, .slice x.la x.links.length x.lc, .slice x.ea x.events.length x.ec] 26)).alloc (.cells #[.int .i64 most] 3)).alloc (.cells #[.slice (some ⟨w.heap.size + 1 + 1 + 1, 0, none⟩) 0 0] 53)).alloc (.cells #[] 26)).alloc (.cells #[.slice (some ⟨w.heap.size + 1 + 1 + 1, 0, none⟩) 0 0] 53)) := (((((Below.refl _ w).alloc (Nat.le_refl _) _).alloc (by simp) _).alloc (by simp; omega) _).alloc (by simp; omega) _).alloc (by simp; omega) _
    have hq6 : (((((w.alloc (.cells #[.int .i64 x.ver, .slice x.pa x.procs.length x.pc, .slice x.la x.links.length x.lc, .slice x.ea x.events.length x.ec] 26)).alloc (.cells #[.int .i64 most] 3)).alloc (.cells #[.slice (some ⟨w.heap.size + 1 + 1 + 1, 0, none⟩) 0 0] 53)).alloc (.cells #[] 26)).alloc (.cells #[.slice (some ⟨w.heap.size + 1 + 1 + 1, 0, none⟩) 0 0] 53)).heap[w.heap.size + 1 + 1]? = some (.cells #[.slice (some ⟨w.heap.size + 1 + 1 + 1, 0, none⟩) 0 0] 53 (0, 0)) := heap_alloc (heap_alloc (heap_new _ (by simp)) _) _
    have HB6 := Lib.hid hb6
    have HQ6 := Lib.hid hq6
    clear hb6 hq6
    go_wp2
    have k0 := heap_cell HQ6.out (i := 0) rfl
    simp only [List.getElem_toArray, List.getElem_cons_zero] at k0
    refine ⟨.slice (some ⟨w.heap.size + 1 + 1 + 1, 0, none⟩) 0 0, by simp [results, Try.f30, go_sem, k0], ?_⟩
    rw [h0]
    exact ⟨[], _, _, 0, rfl, RowsAt.nil rfl rfl, fun y hy => (by cases hy), rfl, HB6.out⟩
  · have hmb : decide (most ≤ 0) = false := by simp; omega
    have hmi : (0 : Int) < most := by omega
    go_wp2_with fail
    have hb5 := HB5.out
    have q1 := HQ1.out
    have q2 := HQ2.out
    have q4 := HQ4.out
    have hz5 := HZ5.out
    clear HB5 HQ1 HQ2 HQ4 HZ5
    generalize (((((w.alloc (.cells #[.int .i64 x.ver, .slice x.pa x.procs.length x.pc, .slice x.la x.links.length x.lc, .slice x.ea x.events.length x.ec] 26)).alloc (.cells #[.int .i64 most] 3)).alloc (.cells #[.slice none 0 0] 53)).alloc (.cells #[] 26)).alloc (.cells #[.slice (some ⟨w.heap.size + 1 + 1 + 1, 0, none⟩) 0 0] 53)) = W0 at *
    refine HWy.out.mono ?_
    clear HWy
    rintro e w1 ⟨B, x1, rfl, hB, hNB, hxm, hown, hb1⟩
    obtain ⟨D, hD⟩ : ∃ D, waysD x.m = D := ⟨_, rfl⟩
    have hlen : D.length ≤ 4 := by rw [← hD]; exact waysD_len _
    have HD := Lib.hid hD
    have hD1 : waysD x1.m = D := by rw [hxm]; exact hD
    have hs1 : Sized x1.m := by rw [hxm]; exact HSz.out
    have hbx := heap_lt hB
    have hzW := hb1.size
    have hq1 := heap_below q1 hb1 (heap_lt q1)
    have hq2 := heap_below q2 hb1 (heap_lt q2)
    have hq4 := heap_below q4 hb1 (heap_lt q4)
    have hb2 : Below w.heap.size w w1 := hb5.trans (hb1.mono hb5.size)
    obtain ⟨A, hA⟩ : ∃ A, w.heap.size = A := ⟨_, rfl⟩
    obtain ⟨Z, hZ⟩ : ∃ Z, w1.heap.size = Z := ⟨_, rfl⟩
    have hxA := hown.at_
    have hin : InS (fun k => A + 5 ≤ k ∧ k < Z) x1 := (InS.own (S := fun k => W0.heap.size ≤ k) hown (fun k hk => hk)).under hxA (fun k h1 h2 => ⟨by omega, by omega⟩)
    have HSQ := Lib.hid (ways1_seq (S0 := fun k => A + 5 ≤ k ∧ k < Z) hB hxA hs1 (fun k hk => by omega) hin 2 (by omega))
    rw [hD1] at HSQ
    rw [hz5] at hNB hzW
    rw [hA] at hNB hzW hb2 hq1 hq2 hq4 ⊢
    rw [hZ] at hbx hzW
    have hW0 : ∀ r : Loop, ∃ v, WyI w A Z most (.slice none 0 0) (fun k => A + 5 ≤ k ∧ k < Z) [] ((w1.alloc (.deferred (some []))).alloc (.loop r)) v := fun r =>
      ⟨.slice (some ⟨A + 1 + 1 + 1, 0, none⟩) 0 0, heap_alloc (heap_alloc hq1 _) _, heap_alloc (heap_alloc hq2 _) _, heap_alloc (heap_alloc hq4 _) _, .inl ⟨rfl, rfl, _, rfl⟩, fun g hg => by
        have : A + 1 + 1 + 1 = g := by simpa [Value.ownBlock] using hg
        refine ⟨by omega, by simp; omega⟩, fun g hg => by
        have : A + 1 + 1 + 1 = g := by simpa [Value.ownBlock] using hg
        exact .inl this.symm, fun y hy => (by cases hy), (hb2.alloc (by omega) _).alloc (by simp; omega) _, by simp; omega⟩
    have HW0 := Lib.hid hW0
    have HAs := Lib.hid hA
    have HZ := Lib.hid hZ
    have hS0 : ∀ k, (A + 5 ≤ k ∧ k < Z) → A + 5 ≤ k := fun k hk => hk.1
    have HS0 := Lib.hid hS0
    have hAZ : A + 5 ≤ Z := by omega
    clear hW0 hA hZ hB hNB hxm hown hb1 hD hD1 hs1 hq1 hq2 hq4 hb2 hxA hin q1 q2 q4 hb5 hz5 HSz hS0 hzW
    go_wp2_with fail
    refine (wpIn_wide (n := 3)).1 ?_
    refine wpIn_rangeFunc_seqS rfl (by omega) (gf := 87) (lb := #[.pointer (some ⟨B, 0, none⟩)]) rfl trivial (enters_of Try.func87 (by kernel_rfl) rfl) HSQ.out (fun k hk => by rw [HZ.out]; omega) (fun S u X Y h hc => h.stay hc) (fun S S' u X h hs => h.mono hs) (Below.refl _ _) (fun _ => rfl)
      (fun S pre W => (pre.length : Int) < most ∧ ∃ v, WyI w A Z most (.slice none 0 0) S pre W v)
      (fun c S pre W => c = .ret ∧ (pre.length : Int) = most ∧ ∃ v, WyI w A Z most v S pre W v)
      (fun S pre X o o' hs ho hc => by
        rw [HZ.out] at ho ⊢
        exact ⟨hs.1, hs.2.elim fun v h => ⟨v, h.put (by omega) (by omega) o' ho hc⟩⟩)
      (fun c S pre X o o' hs ho hc => by
        rw [HZ.out] at ho ⊢
        exact ⟨hs.1, hs.2.1, hs.2.2.elim fun v h => ⟨v, h.put (by omega) (by omega) o' ho hc⟩⟩)
      (fun r => ⟨by simpa using hmi, HW0.out r⟩)
      (fun y a' W => ∃ T6, a' = { tmps := #[.agg #[.int .i64 x.ver, .slice x.pa x.procs.length x.pc, .slice x.la x.links.length x.lc, .slice x.ea x.events.length x.ec], .int .i64 most, .pointer (some ⟨A, 0, none⟩), .pointer (some ⟨A + 1, 0, none⟩), .pointer (some ⟨A + 1 + 1, 0, none⟩), .pointer (some ⟨A + 1 + 1 + 1 + 1, 0, none⟩), .pointer (some ⟨T6, 0, none⟩), .slice (some ⟨A + 1 + 1 + 1, 0, none⟩) 0 0, .int .i64 most, .bool false, undef, .agg #[.int .i64 x.ver, .slice x.pa x.procs.length x.pc, .slice x.la x.links.length x.lc, .slice x.ea x.events.length x.ec], .func (.func 87) #[] #[.pointer (some ⟨B, 0, none⟩)], .agg #[.int .i64 y.ver, .slice y.pa y.procs.length y.pc, .slice y.la y.links.length y.lc, .slice y.ea y.events.length y.ec], undef, undef, undef, undef, undef, undef, undef, undef, undef, undef], defers := [] } ∧ W.heap[T6]? = some (.cells #[.int .i64 y.ver, .slice y.pa y.procs.length y.pc, .slice y.la y.links.length y.lc, .slice y.ea y.events.length y.ec] 26 (0, 0)))
      (fun y a' W l o o' hs hl ho hc => by
        obtain ⟨T6, h1, h2⟩ := hs
        exact ⟨T6, h1, (CellsStay.put o' ho hc).2 _ _ h2 rfl⟩) ?assign ?body ?done ?stop
    case assign =>
      rintro l' S pre y A0 W K hI hT hat hK
      unfold encW
      gi_wp2
      exact hK _ _ ((Below.refl _ _).alloc (Nat.le_refl _) _) ⟨W.heap.size, rfl, heap_new _ (by simp)⟩
    case body =>
      rintro l' u S pre y a' A0 W ⟨hpe, v, hi⟩ hok hzA hT hall hu1 hu2 ⟨T6, rfl, h6⟩ hat hpre
      have hpl : pre.length + 1 ≤ 4 := by
        have := hpre.length_le
        simp at this
        omega
      rw [HZ.out] at hok ⊢
      have hiW := hi.turned hT hall (fun k hk => (hok k hk).1) hAZ u
      have hok2 : ∀ k, (S k ∨ (A0.heap.size ≤ k ∧ k < u)) → (A + 5 ≤ k ∧ k < Z) ∨ Z + 2 ≤ k := fun k hk => by
        rcases hk with h | h
        · exact (hok k h).1
        · have := hi.size
          exact .inr (by omega)
      have hS2 : ∀ k, (S k ∨ (A0.heap.size ≤ k ∧ k < u)) → k < W.heap.size := fun k hk => by
        rcases hk with h | h
        · have := (hok k h).2
          omega
        · omega
      obtain ⟨a6, c6, rfl⟩ := hiW.row.slice
      have c0 : W.cell? ⟨A + 1 + 1 + 1 + 1, 0, none⟩ = some (.slice a6 pre.length c6) := heap_cell hiW.b4 rfl
      have f0 : W.frozen? ⟨A + 1 + 1 + 1 + 1, 0, none⟩ = false := heap_frozen hiW.b4 0
      have d0 : W.cell? ⟨T6, 0, none⟩ = some (.int .i64 y.ver) := heap_cell h6 rfl
      have d1 : W.cell? ⟨T6, 1, none⟩ = some (.slice y.pa y.procs.length y.pc) := heap_cell h6 rfl
      have d2 : W.cell? ⟨T6, 2, none⟩ = some (.slice y.la y.links.length y.lc) := heap_cell h6 rfl
      have d3 : W.cell? ⟨T6, 3, none⟩ = some (.slice y.ea y.events.length y.ec) := heap_cell h6 rfl
      have HW := Lib.hid hiW
      have HX := Lib.hid hat
      have HOk0 := Lib.hid hok2
      have HSm0 := Lib.hid hS2
      have HG : Hid (Gath (W.alloc (.cells (encM y).toArray 26)) (Z + 2) 26 4 (.slice a6 pre.length c6) pre.length (pre.flatMap encM)) := Lib.hid (gath_at hiW.row (fun g q _ _ hq => heap_alloc hq _))
      have HC : Hid (∀ j u, (encM y)[j]? = some u → (W.alloc (.cells (encM y).toArray 26)).cell? ((⟨W.heap.size, 0, none⟩ : Addr).add j) = some u) := Lib.hid (cell_row3 W (encM y) 26)
      have hzZ := hi.size
      have hzT := hT.size
      clear hi hok hT hall hu1 hu2 h6 hat hpre hiW hok2 hS2
      generalize hS2 : (fun k => S k ∨ (A0.heap.size ≤ k ∧ k < u)) = S2 at *
      have HOk : Hid (∀ k, S2 k → (A + 5 ≤ k ∧ k < Z) ∨ Z + 2 ≤ k) := Lib.hid (by rw [← hS2]; exact HOk0.out)
      have HSm : Hid (∀ k, S2 k → k < W.heap.size) := Lib.hid (by rw [← hS2]; exact HSm0.out)
      clear hS2 HOk0 HSm0
      by_cases heq : (pre.length : Int) + 1 = most
      · have heb : ((pre.length : Int) + 1 == most) = true := by simpa using heq
        gi_wp2_with (gi_at_builtin; refine wpListIn_append_whereG _ rfl _ _ 53 rfl (Z + 2) 26 i0 (.agg zMd) 4 80 Try.underlying53 HI.out HZ0.out HZ1.out HZ2.out rfl (by decide) _ _ _ rfl HG.out ⟨W.heap.size, 0, none⟩ 1 1 (encM y) rfl rfl HC.out (fun u hu => by simp [encM] at hu; rcases hu with rfl | rfl | rfl | rfl <;> rfl) (by decide) (by unfold maxLen; omega) (by omega) (by simp; omega) ?_; intro g5 cap5 w3 row hown hgrow hrow hg5; obtain ⟨⟨q1, q2, q4⟩, hA, hk, hj⟩ := HW.out.app HX.out HOk.out HS0.out HSm.out (by omega) hown hgrow hrow hg5; have HA := Lib.hid hA; have HK := Lib.hid (And.intro hk hj); have c5 : w3.cell? ⟨A + 1 + 1 + 1 + 1, 0, none⟩ = some (.slice a6 pre.length c6) := heap_cell q4 rfl; have f5 : w3.frozen? ⟨A + 1 + 1 + 1 + 1, 0, none⟩ = false := heap_frozen q4 0; have d5 : w3.cell? ⟨A + 1, 0, none⟩ = some (.int .i64 most) := heap_cell q1 rfl; have d6 : w3.cell? ⟨A + 1 + 1, 0, none⟩ = some (.slice none 0 0) := heap_cell q2 rfl; have f6 : w3.frozen? ⟨A + 1 + 1, 0, none⟩ = false := heap_frozen q2 0; clear hown hgrow hrow hg5 hA hk hj q1 q2 q4)
        obtain ⟨r1, r2, r3⟩ := HA.out.res HOk.out HS0.out hAZ (.slice (some ⟨g5, 0, none⟩) (pre.length + 1) cap5)
        exact ⟨⟨(r3 Z (Nat.le_refl _)).trans (HK.out.2 Z (.inl rfl)), (r3 (Z + 1) (by omega)).trans (HK.out.2 (Z + 1) (.inr rfl))⟩, HK.out.1.trans r2, rfl, by simp; omega, _, r1⟩
      · have heb : ((pre.length : Int) + 1 == most) = false := by simpa using heq
        gi_wp2_with (gi_at_builtin; refine wpListIn_append_whereG _ rfl _ _ 53 rfl (Z + 2) 26 i0 (.agg zMd) 4 80 Try.underlying53 HI.out HZ0.out HZ1.out HZ2.out rfl (by decide) _ _ _ rfl HG.out ⟨W.heap.size, 0, none⟩ 1 1 (encM y) rfl rfl HC.out (fun u hu => by simp [encM] at hu; rcases hu with rfl | rfl | rfl | rfl <;> rfl) (by decide) (by unfold maxLen; omega) (by omega) (by simp; omega) ?_; intro g5 cap5 w3 row hown hgrow hrow hg5; obtain ⟨⟨q1, q2, q4⟩, hA, hk, hj⟩ := HW.out.app HX.out HOk.out HS0.out HSm.out (by omega) hown hgrow hrow hg5; have HA := Lib.hid hA; have HK := Lib.hid (And.intro hk hj); have c5 : w3.cell? ⟨A + 1 + 1 + 1 + 1, 0, none⟩ = some (.slice a6 pre.length c6) := heap_cell q4 rfl; have f5 : w3.frozen? ⟨A + 1 + 1 + 1 + 1, 0, none⟩ = false := heap_frozen q4 0; have d5 : w3.cell? ⟨A + 1, 0, none⟩ = some (.int .i64 most) := heap_cell q1 rfl; have d6 : w3.cell? ⟨A + 1 + 1, 0, none⟩ = some (.slice none 0 0) := heap_cell q2 rfl; have f6 : w3.frozen? ⟨A + 1 + 1, 0, none⟩ = false := heap_frozen q2 0; clear hown hgrow hrow hg5 hA hk hj q1 q2 q4)
        exact ⟨⟨HK.out.2 Z (.inl rfl), HK.out.2 (Z + 1) (.inr rfl)⟩, HK.out.1, by simp; omega, _, HA.out⟩
    case done =>
      rintro C S pre W0' W hC hmap hok ⟨hpe, v, hi⟩ hT hall hK
      rw [HZ.out] at hC hok
      have hiW := hi.turned hT hall (fun k hk => (hok k hk).1) hAZ 0
      obtain ⟨a6, c6, rfl⟩ := hiW.row.slice
      have c0 : W.cell? ⟨A + 1 + 1 + 1 + 1, 0, none⟩ = some (.slice a6 pre.length c6) := heap_cell hiW.b4 rfl
      have d0 : W.cell? ⟨A + 1 + 1, 0, none⟩ = some (.slice none 0 0) := heap_cell hiW.b2 rfl
      have f0 : W.frozen? ⟨A + 1 + 1, 0, none⟩ = false := heap_frozen hiW.b2 0
      have hok2 : ∀ k, (S k ∨ (W0'.heap.size ≤ k ∧ k < 0)) → (A + 5 ≤ k ∧ k < Z) ∨ Z + 2 ≤ k := fun k hk => by
        rcases hk with h | h
        · exact (hok k h).1
        · omega
      have hp4 : pre.length ≤ 4 := by
        have := congrArg List.length hmap
        simp at this
        omega
      have HW := Lib.hid hiW
      have HOk := Lib.hid hok2
      have HK := Lib.hid hK
      have HMp := Lib.hid hmap
      clear hi hok hT hall hiW hok2 hK hmap
      go_wp2
      obtain ⟨r1, r2, r3⟩ := HW.out.res HOk.out HS0.out hAZ (.slice a6 pre.length c6)
      have hK' := (r3 C (by omega)).trans HK.out
      generalize W.setCell ⟨A + 1 + 1, 0, none⟩ (.slice a6 pre.length c6) = X at *
      refine ⟨by simp, .inl ⟨_, _, rfl, run_takeDeferred hK', ?_⟩⟩
      have hP := r1.put (by omega) (l := C) (by omega) (.deferred none) hK' rfl
      have k0 : (X.putObj C (.deferred none)).cell? ⟨A + 1 + 1, 0, none⟩ = some (.slice a6 pre.length c6) := heap_cell hP.b2 rfl
      refine ⟨.slice a6 pre.length c6, by simp [results, Try.f30, go_sem, k0], ?_⟩
      rw [← HAs.out] at hP
      exact hP.fin hp4 (by rw [HD.out]; exact take_done HMp.out hpe)
    case stop =>
      rintro C c S pre W0' W hC hpre hok ⟨rfl, h1, v, hi⟩ hT hall hK
      rw [HZ.out] at hC hok
      have hiW := hi.turned hT hall (fun k hk => (hok k hk).1) hAZ 0
      have hp4 : pre.length ≤ 4 := by
        have := hpre.length_le
        simp at this
        omega
      gi_wp2
      refine ⟨by simp, .inl ⟨_, _, rfl, run_takeDeferred hK, ?_⟩⟩
      have hP := hiW.put (by omega) (l := C) (by omega) (.deferred none) hK rfl
      have k0 : (W.putObj C (.deferred none)).cell? ⟨A + 1 + 1, 0, none⟩ = some v := heap_cell hP.b2 rfl
      refine ⟨v, by simp [results, Try.f30, go_sem, k0], ?_⟩
      rw [← HAs.out] at hP
      exact hP.fin hp4 (by rw [HD.out]; exact take_stop hpre h1)
end Go.Proofs.Ytgnlehenbdcgmaa.Md
