/- Contract: the newest version of a model, or the fault. Upgrade: all ways up, as an iterator. -/
import Derived.Test.YtgnlehenbdcgmaaUi
import Derived.Test.YtgnlehenbdcgmaaRt
set_option linter.unusedVariables false
set_option linter.unusedSectionVars false
set_option linter.unusedSimpArgs false
namespace Go.Proofs.Ytgnlehenbdcgmaa.Md
open Go.RowKit Go.Shelf

attribute [local go_sem] Oper.semAt_some
/-- The newest, plainly. -/
def latR : List (ModelM × Int × Int) → ModelM → ModelM × Int × Int
  | [], last => (last, 0, 0)
  | (m, e, ea) :: r, last => if e = 0 then latR r m else (zeroM, e, ea)
def LatR (m : ModelM) : ModelM × Int × Int := latR (upsD 3 m (mdE m)) zeroM
theorem lat_snoc : ∀ (p : List UpE) (u : UpE) (l : ModelM), (∀ v ∈ p ++ [u], v.e = 0) → latR ((p ++ [u]).map plU) l = (u.x.m, 0, 0)
  | [], u, l, h => by
    have := h u (by simp)
    simp [latR, plU, this]
  | v :: p, u, l, h => by
    have h1 := h v (by simp)
    have := lat_snoc p u v.x.m (fun y hy => h y (by simp at hy ⊢; exact .inr hy))
    simp only [List.cons_append, List.map_cons, latR, plU, h1, if_true]
    exact this
theorem lat_bad : ∀ (p : List UpE) (u : UpE) (l : ModelM) (t : List (ModelM × Int × Int)), (∀ v ∈ p, v.e = 0) → u.e ≠ 0 → latR ((p ++ [u]).map plU ++ t) l = (zeroM, u.e, u.ea)
  | [], u, l, t, h, hu => by simp [latR, plU, hu]
  | v :: p, u, l, t, h, hu => by
    have h1 := h v (by simp)
    have := lat_bad p u v.x.m t (fun y hy => h y (by simp; exact .inr hy)) hu
    simp only [List.cons_append, List.map_cons, latR, plU, h1, if_true]
    exact this
theorem cells_grown {X Y : World} {row : Option Nat} (hg : X.grownBy Y row) (hr : ∀ r, row = some r → ∃ o : Obj, X.heap[r]? = some o ∧ o.isCells = false) : CellsStay X Y :=
  ⟨hg.size, fun k o ho hc => heap_kept ho hg (fun e => by
    obtain ⟨o', ho', hc'⟩ := hr k e.symm
    rw [ho] at ho'
    cases ho'
    rw [hc] at hc'
    cases hc')⟩
/-- While the newest is sought. -/
structure La (w : World) (S : Nat → Prop) (pre : List UpE) (W : World) : Prop where
  res : W.heap[w.heap.size + 1]? = some (.cells #[.int .i64 0, .slice none 0 0, .slice none 0 0, .slice none 0 0] 26 (0, 0))
  flt : W.heap[w.heap.size + 1 + 1]? = some (.cells #[.int .i64 0, .int .i64 0] 31 (0, 0))
  last : ∃ y : ModelV, W.heap[w.heap.size + 1 + 1 + 1]? = some (.cells #[.int .i64 y.ver, .slice y.pa y.procs.length y.pc, .slice y.la y.links.length y.lc, .slice y.ea y.events.length y.ec] 26 (0, 0)) ∧ ((pre = [] ∧ y = noneV) ∨ ∃ p u, pre = p ++ [u] ∧ y = u.x)
  zer : ∀ u ∈ pre, u.e = 0
  all : ∀ u ∈ pre, AtU S u W
  low : Below w.heap.size w W
/-- When a fault was met. -/
structure Lx (w : World) (pre : List UpE) (W : World) : Prop where
  res : W.heap[w.heap.size + 1]? = some (.cells #[.int .i64 0, .slice none 0 0, .slice none 0 0, .slice none 0 0] 26 (0, 0))
  flt : ∃ p u, pre = p ++ [u] ∧ (∀ v ∈ p, v.e = 0) ∧ u.e ≠ 0 ∧ W.heap[w.heap.size + 1 + 1]? = some (.cells #[.int .i64 u.e, .int .i64 u.ea] 31 (0, 0))
  low : Below w.heap.size w W
theorem grown_low {w X Y : World} {row : Option Nat} {n : Nat} (h : Below w.heap.size w X) (hg : X.grownBy Y row) (hr : ∀ r, row = some r → n ≤ r) (hn : w.heap.size ≤ n) : Below w.heap.size w Y := h.grown hg h.size (fun r e => Nat.le_trans hn (hr r e))
theorem La.grow {w X Y : World} {S : Nat → Prop} {pre : List UpE} {row : Option Nat} {n : Nat} (h : La w S pre X) (hg : X.grownBy Y row) (hn : w.heap.size ≤ n) (hr : ∀ r, row = some r → n ≤ r ∧ ∃ o : Obj, X.heap[r]? = some o ∧ o.isCells = false) : La w S pre Y := by
  have hc := cells_grown hg (fun r e => (hr r e).2)
  obtain ⟨y, h1, h2⟩ := h.last
  exact ⟨hc.2 _ _ h.res rfl, hc.2 _ _ h.flt rfl, ⟨y, hc.2 _ _ h1 rfl, h2⟩, h.zer, fun u hu => (h.all u hu).stay hc, grown_low h.low hg (fun r e => (hr r e).1) hn⟩
theorem Lx.grow {w X Y : World} {pre : List UpE} {row : Option Nat} {n : Nat} (h : Lx w pre X) (hg : X.grownBy Y row) (hn : w.heap.size ≤ n) (hr : ∀ r, row = some r → n ≤ r ∧ ∃ o : Obj, X.heap[r]? = some o ∧ o.isCells = false) : Lx w pre Y := by
  have hc := cells_grown hg (fun r e => (hr r e).2)
  obtain ⟨p, u, h1, h2, h3, h4⟩ := h.flt
  exact ⟨hc.2 _ _ h.res rfl, ⟨p, u, h1, h2, h3, hc.2 _ _ h4 rfl⟩, grown_low h.low hg (fun r e => (hr r e).1) hn⟩
theorem La.turn {w X Y : World} {S0 S : Nat → Prop} {pre : List UpE} {b m : Nat} (h : La w S pre X) (hT : Turned (OwnB S0 S) X Y) (hok : SetOk S0 S b m) (hb : w.heap.size + 1 + 1 + 1 < b) (ha : ∀ x' ∈ pre, ∀ S', AtU S' x' X → AtU S' x' Y) : La w S pre Y := by
  have hn : ∀ k, k < b → ¬ OwnB S0 S k := fun k hk h => (hok k h.1).1.elim h.2 (fun h2 => by omega)
  obtain ⟨y, h1, h2⟩ := h.last
  exact ⟨hT.old h.res (hn _ (by omega)), hT.old h.flt (hn _ (by omega)), ⟨y, hT.old h1 (hn _ (by omega)), h2⟩, h.zer, fun u hu => ha u hu S (h.all u hu), h.low.trans (Turned.to_b hT (fun k hk => hn k (by omega)) h.low.size)⟩
set_option maxRecDepth 100000 in
set_option maxHeartbeats 4000000 in
theorem latest_any {w : World} {x : ModelV} (h : ModelAt w.heap.size w x) (hs : Sized x.m) : Calls Try.prog 27 #[.agg #[.int .i64 x.ver, .slice x.pa x.procs.length x.pc, .slice x.la x.links.length x.lc, .slice x.ea x.events.length x.ec]] w (UpQ w (LatR x.m)) := by
  have HSz := Lib.hid hs
  have hb5 : Below w.heap.size w (((((w.alloc (.cells #[.int .i64 x.ver, .slice x.pa x.procs.length x.pc, .slice x.la x.links.length x.lc, .slice x.ea x.events.length x.ec] 26)).alloc (.cells #[.int .i64 0, .slice none 0 0, .slice none 0 0, .slice none 0 0] 26)).alloc (.cells #[.int .i64 0, .int .i64 0] 31)).alloc (.cells #[.int .i64 0, .slice none 0 0, .slice none 0 0, .slice none 0 0] 26)).alloc (.cells #[.int .i64 x.ver, .slice x.pa x.procs.length x.pc, .slice x.la x.links.length x.lc, .slice x.ea x.events.length x.ec] 26)) := (((((Below.refl _ w).alloc (Nat.le_refl _) _).alloc (by simp) _).alloc (by simp; omega) _).alloc (by simp; omega) _).alloc (by simp; omega) _
  have q1 : (((((w.alloc (.cells #[.int .i64 x.ver, .slice x.pa x.procs.length x.pc, .slice x.la x.links.length x.lc, .slice x.ea x.events.length x.ec] 26)).alloc (.cells #[.int .i64 0, .slice none 0 0, .slice none 0 0, .slice none 0 0] 26)).alloc (.cells #[.int .i64 0, .int .i64 0] 31)).alloc (.cells #[.int .i64 0, .slice none 0 0, .slice none 0 0, .slice none 0 0] 26)).alloc (.cells #[.int .i64 x.ver, .slice x.pa x.procs.length x.pc, .slice x.la x.links.length x.lc, .slice x.ea x.events.length x.ec] 26)).heap[w.heap.size + 1]? = some (.cells #[.int .i64 0, .slice none 0 0, .slice none 0 0, .slice none 0 0] 26 (0, 0)) := heap_alloc (heap_alloc (heap_alloc (heap_new _ (by simp)) _) _) _
  have q2 : (((((w.alloc (.cells #[.int .i64 x.ver, .slice x.pa x.procs.length x.pc, .slice x.la x.links.length x.lc, .slice x.ea x.events.length x.ec] 26)).alloc (.cells #[.int .i64 0, .slice none 0 0, .slice none 0 0, .slice none 0 0] 26)).alloc (.cells #[.int .i64 0, .int .i64 0] 31)).alloc (.cells #[.int .i64 0, .slice none 0 0, .slice none 0 0, .slice none 0 0] 26)).alloc (.cells #[.int .i64 x.ver, .slice x.pa x.procs.length x.pc, .slice x.la x.links.length x.lc, .slice x.ea x.events.length x.ec] 26)).heap[w.heap.size + 1 + 1]? = some (.cells #[.int .i64 0, .int .i64 0] 31 (0, 0)) := heap_alloc (heap_alloc (heap_new _ (by simp)) _) _
  have q3 : (((((w.alloc (.cells #[.int .i64 x.ver, .slice x.pa x.procs.length x.pc, .slice x.la x.links.length x.lc, .slice x.ea x.events.length x.ec] 26)).alloc (.cells #[.int .i64 0, .slice none 0 0, .slice none 0 0, .slice none 0 0] 26)).alloc (.cells #[.int .i64 0, .int .i64 0] 31)).alloc (.cells #[.int .i64 0, .slice none 0 0, .slice none 0 0, .slice none 0 0] 26)).alloc (.cells #[.int .i64 x.ver, .slice x.pa x.procs.length x.pc, .slice x.la x.links.length x.lc, .slice x.ea x.events.length x.ec] 26)).heap[w.heap.size + 1 + 1 + 1]? = some (.cells #[.int .i64 0, .slice none 0 0, .slice none 0 0, .slice none 0 0] 26 (0, 0)) := heap_alloc (heap_new _ (by simp)) _
  have q4 : (((((w.alloc (.cells #[.int .i64 x.ver, .slice x.pa x.procs.length x.pc, .slice x.la x.links.length x.lc, .slice x.ea x.events.length x.ec] 26)).alloc (.cells #[.int .i64 0, .slice none 0 0, .slice none 0 0, .slice none 0 0] 26)).alloc (.cells #[.int .i64 0, .int .i64 0] 31)).alloc (.cells #[.int .i64 0, .slice none 0 0, .slice none 0 0, .slice none 0 0] 26)).alloc (.cells #[.int .i64 x.ver, .slice x.pa x.procs.length x.pc, .slice x.la x.links.length x.lc, .slice x.ea x.events.length x.ec] 26)).heap[w.heap.size + 1 + 1 + 1 + 1]? = some (.cells #[.int .i64 x.ver, .slice x.pa x.procs.length x.pc, .slice x.la x.links.length x.lc, .slice x.ea x.events.length x.ec] 26 (0, 0)) := heap_new _ (by simp)
  have hz5 : (((((w.alloc (.cells #[.int .i64 x.ver, .slice x.pa x.procs.length x.pc, .slice x.la x.links.length x.lc, .slice x.ea x.events.length x.ec] 26)).alloc (.cells #[.int .i64 0, .slice none 0 0, .slice none 0 0, .slice none 0 0] 26)).alloc (.cells #[.int .i64 0, .int .i64 0] 31)).alloc (.cells #[.int .i64 0, .slice none 0 0, .slice none 0 0, .slice none 0 0] 26)).alloc (.cells #[.int .i64 x.ver, .slice x.pa x.procs.length x.pc, .slice x.la x.links.length x.lc, .slice x.ea x.events.length x.ec] 26)).heap.size = w.heap.size + 1 + 1 + 1 + 1 + 1 := by simp
  have HSQ := Lib.hid (ups1_seq (S0 := (fun k => k < w.heap.size ∨ k = w.heap.size + 1 + 1 + 1 + 1)) q4 (h.on hb5) hs (fun k hk => by rw [hz5]; omega) (InS.below h (fun k hk => .inl hk)) 2)
  have HL0 : Hid (La w (fun k => k < w.heap.size ∨ k = w.heap.size + 1 + 1 + 1 + 1) [] (((((w.alloc (.cells #[.int .i64 x.ver, .slice x.pa x.procs.length x.pc, .slice x.la x.links.length x.lc, .slice x.ea x.events.length x.ec] 26)).alloc (.cells #[.int .i64 0, .slice none 0 0, .slice none 0 0, .slice none 0 0] 26)).alloc (.cells #[.int .i64 0, .int .i64 0] 31)).alloc (.cells #[.int .i64 0, .slice none 0 0, .slice none 0 0, .slice none 0 0] 26)).alloc (.cells #[.int .i64 x.ver, .slice x.pa x.procs.length x.pc, .slice x.la x.links.length x.lc, .slice x.ea x.events.length x.ec] 26))) := Lib.hid ⟨q1, q2, ⟨noneV, q3, .inl ⟨rfl, rfl⟩⟩, fun u hu => (by cases hu), fun u hu => (by cases hu), hb5⟩
  clear h hs q1 q2 q3 q4 hb5
  refine (callsIn_wide (n := 3)).1 ?_
  refine callsIn_of_wp_marks Try.func27 rfl trivial ?_ rfl
  simp only [Try.ntmps27, List.size_toArray, List.length_cons, List.length_nil, Nat.reduceAdd, Nat.reduceSub, Array.replicate_succ, Array.replicate_zero, List.push_toArray, List.append_toArray, List.nil_append, List.cons_append]
  refine wpIn_wide.2 ?_
  go_wp2_with fail
  refine (ups_any x _).mono ?_
  rintro e w5 ⟨rfl, rfl⟩
  go_wp2_with fail
  generalize (((((w.alloc (.cells #[.int .i64 x.ver, .slice x.pa x.procs.length x.pc, .slice x.la x.links.length x.lc, .slice x.ea x.events.length x.ec] 26)).alloc (.cells #[.int .i64 0, .slice none 0 0, .slice none 0 0, .slice none 0 0] 26)).alloc (.cells #[.int .i64 0, .int .i64 0] 31)).alloc (.cells #[.int .i64 0, .slice none 0 0, .slice none 0 0, .slice none 0 0] 26)).alloc (.cells #[.int .i64 x.ver, .slice x.pa x.procs.length x.pc, .slice x.la x.links.length x.lc, .slice x.ea x.events.length x.ec] 26)) = W0 at *
  obtain ⟨A, hA⟩ : ∃ A, w.heap.size = A := ⟨_, rfl⟩
  rw [hA] at HSQ hz5 ⊢
  have HL1 : Hid (La w (fun k => k < A ∨ k = A + 1 + 1 + 1 + 1) [] W0) := Lib.hid (by rw [← hA]; exact HL0.out)
  have HA := Lib.hid hA
  clear HL0 hA
  refine (wpIn_wide (n := 3)).1 ?_
  refine wpIn_rangeFunc_seqS rfl (by omega) (gf := 81) (lb := #[.pointer (some ⟨A + 1 + 1 + 1 + 1, 0, none⟩)]) rfl trivial (enters_of Try.func81 (by kernel_rfl) rfl) HSQ.out (fun k hk => by rw [hz5]; omega) (fun S u X Y h hc => h.stay hc) (fun S S' u X h hs => h.mono hs) (Below.refl _ _) (fun _ => rfl)
    (fun S pre W => La w S pre W) (fun c S pre W => c = .ret ∧ Lx w pre W)
    (fun S pre X o o' hs ho hc => hs.grow (n := W0.heap.size) (grownBy_putObj' X _ o') (by have := HA.out; omega) (fun r e => by cases e; exact ⟨by omega, o, ho, hc⟩))
    (fun c S pre X o o' hs ho hc => ⟨hs.1, hs.2.grow (n := W0.heap.size) (grownBy_putObj' X _ o') (by have := HA.out; omega) (fun r e => by cases e; exact ⟨by omega, o, ho, hc⟩)⟩)
    (fun r => (HL1.out.grow (n := W0.heap.size) (World.grownBy_alloc _ _ none) (by have := HA.out; omega) (fun r e => by cases e)).grow (n := W0.heap.size) (World.grownBy_alloc _ _ none) (by have := HA.out; omega) (fun r e => by cases e))
    (fun u a' W => ∃ T5 T6, a' = { tmps := #[.agg #[.int .i64 x.ver, .slice x.pa x.procs.length x.pc, .slice x.la x.links.length x.lc, .slice x.ea x.events.length x.ec], .pointer (some ⟨A, 0, none⟩), .pointer (some ⟨A + 1, 0, none⟩), .pointer (some ⟨A + 1 + 1, 0, none⟩), .pointer (some ⟨A + 1 + 1 + 1, 0, none⟩), .pointer (some ⟨T5, 0, none⟩), .pointer (some ⟨T6, 0, none⟩), .agg #[.int .i64 x.ver, .slice x.pa x.procs.length x.pc, .slice x.la x.links.length x.lc, .slice x.ea x.events.length x.ec], .func (.func 81) #[] #[.pointer (some ⟨A + 1 + 1 + 1 + 1, 0, none⟩)], .agg #[.int .i64 u.x.ver, .slice u.x.pa u.x.procs.length u.x.pc, .slice u.x.la u.x.links.length u.x.lc, .slice u.x.ea u.x.events.length u.x.ec], .agg #[.int .i64 u.e, .int .i64 u.ea], undef, undef, undef, undef, undef, undef, undef, undef, undef], defers := [] } ∧ W.heap[T5]? = some (.cells #[.int .i64 u.x.ver, .slice u.x.pa u.x.procs.length u.x.pc, .slice u.x.la u.x.links.length u.x.lc, .slice u.x.ea u.x.events.length u.x.ec] 26 (0, 0)) ∧ W.heap[T6]? = some (.cells #[.int .i64 u.e, .int .i64 u.ea] 31 (0, 0)) ∧ A + 1 + 1 + 1 < T5 ∧ A + 1 + 1 + 1 < T6)
    (fun u a' W l o o' hs hl ho hc => by
      obtain ⟨T5, T6, h1, h2, h3, h4, h5⟩ := hs
      have hp := CellsStay.put o' ho hc
      exact ⟨T5, T6, h1, hp.2 _ _ h2 rfl, hp.2 _ _ h3 rfl, h4, h5⟩) ?assign ?body ?done ?stop
  case assign =>
    rintro l S pre u A0 W K hI hT hat hK
    have hz := hT.size
    have hzA := hI.low.size
    have hl3 : A + 1 + 1 + 1 < A0.heap.size := by
      obtain ⟨y, h1, _⟩ := hI.last
      have := heap_lt h1
      rw [HA.out] at this
      exact this
    unfold encU
    gi_wp2
    refine hK _ _ (((Below.refl _ _).alloc (Nat.le_refl _) _).alloc (by simp) _) ⟨W.heap.size, W.heap.size + 1, rfl, heap_alloc (heap_new _ rfl) _, heap_new _ (by simp), by omega, by omega⟩
  case body =>
    rintro l m S pre u a' A0 W hI hok hzA hT hall hm1 hm2 ⟨T5, T6, rfl, h5, h6, h5l, h6l⟩ hat hpre
    have hIW := hI.turn hT hok (by have := HA.out; omega) hall
    have hres := hIW.res
    have hflt := hIW.flt
    obtain ⟨y, hlast, _⟩ := hIW.last
    rw [HA.out] at hres hflt hlast
    have HI := Lib.hid hIW
    have HOk := Lib.hid hok
    have HAt := Lib.hid hat
    have HZA := Lib.hid (And.intro hzA (And.intro hm1 hm2))
    clear hI hok hT hall hpre hzA hm1 hm2 hat hIW
    have hnS : ∀ k, A ≤ k → k < A + 1 + 1 + 1 + 1 → ¬ (S k ∨ (A0.heap.size ≤ k ∧ k < m)) := fun k h1 h2 h => by
      rcases h with h | h
      · rcases (HOk.out k h).1 with (h3 | h3) | h3
        · omega
        · omega
        · omega
      · have := HZA.out.1
        omega
    have HnS := Lib.hid hnS
    clear hnS
    generalize hS2 : (fun k => S k ∨ (A0.heap.size ≤ k ∧ k < m)) = S2 at *
    have hSub : ∀ k, S k → S2 k := fun k hk => by rw [← hS2]; exact .inl hk
    have HSub := Lib.hid hSub
    have HnS2 : Hid (∀ k, A ≤ k → k < A + 1 + 1 + 1 + 1 → ¬ S2 k) := Lib.hid (by rw [← hS2]; exact HnS.out)
    clear hS2 hSub HnS
    have HX5 := Lib.hid h5
    have HX6 := Lib.hid h6
    have HRs := Lib.hid hres
    have HFl := Lib.hid hflt
    have HLs := Lib.hid hlast
    have c0 : W.cell? ⟨T5, 0, none⟩ = some (.int .i64 u.x.ver) := heap_cell h5 rfl
    have c1 : W.cell? ⟨T5, 1, none⟩ = some (.slice u.x.pa u.x.procs.length u.x.pc) := heap_cell h5 rfl
    have c2 : W.cell? ⟨T5, 2, none⟩ = some (.slice u.x.la u.x.links.length u.x.lc) := heap_cell h5 rfl
    have c3 : W.cell? ⟨T5, 3, none⟩ = some (.slice u.x.ea u.x.events.length u.x.ec) := heap_cell h5 rfl
    have d0 : W.cell? ⟨T6, 0, none⟩ = some (.int .i64 u.e) := heap_cell h6 rfl
    have d1 : W.cell? ⟨T6, 1, none⟩ = some (.int .i64 u.ea) := heap_cell h6 rfl
    clear h5 h6
    by_cases he : u.e = 0
    · have heb : (u.e != 0) = false := by simpa using he
      have l0 : W.cell? ⟨A + 1 + 1 + 1, 0, none⟩ = some (.int .i64 y.ver) := heap_cell hlast rfl
      have l1 : W.cell? ⟨A + 1 + 1 + 1, 1, none⟩ = some (.slice y.pa y.procs.length y.pc) := heap_cell hlast rfl
      have l2 : W.cell? ⟨A + 1 + 1 + 1, 2, none⟩ = some (.slice y.la y.links.length y.lc) := heap_cell hlast rfl
      have l3 : W.cell? ⟨A + 1 + 1 + 1, 3, none⟩ = some (.slice y.ea y.events.length y.ec) := heap_cell hlast rfl
      have f0 := heap_frozen hlast 0
      have f1 := heap_frozen hlast 1
      have f2 := heap_frozen hlast 2
      have f3 := heap_frozen hlast 3
      clear hres hflt hlast
      have HE := Lib.hid he
      clear he
      gi_wp2
      have h4 := set4 HLs.out (.int .i64 u.x.ver) (.slice u.x.pa u.x.procs.length u.x.pc) (.slice u.x.la u.x.links.length u.x.lc) (.slice u.x.ea u.x.events.length u.x.ec)
      have hkp : KeepS S2 W _ := Turned.weak' h4.2 (R' := fun k => ¬ S2 k) (fun k _ e => by rw [e]; exact HnS2.out _ (by omega) (by omega))
      have hzW := HZA.out
      refine ⟨⟨h4.2.block _ (by omega) (fun e => by omega), h4.2.block _ (by omega) (fun e => by omega)⟩, hkp, ?_⟩
      generalize (((W.setCell ⟨A + 1 + 1 + 1, 0, none⟩ (.int .i64 u.x.ver)).setCell ⟨A + 1 + 1 + 1, 1, none⟩ (.slice u.x.pa u.x.procs.length u.x.pc)).setCell ⟨A + 1 + 1 + 1, 2, none⟩ (.slice u.x.la u.x.links.length u.x.lc)).setCell ⟨A + 1 + 1 + 1, 3, none⟩ (.slice u.x.ea u.x.events.length u.x.ec) = B at *
      have hat2 : ∀ v, AtU S2 v W → AtU S2 v B := fun v h => ⟨h.1.keep hkp h.2.2, h.2.1, h.2.2⟩
      refine ⟨by rw [HA.out]; exact h4.2.old HRs.out (fun e => by omega), by rw [HA.out]; exact h4.2.old HFl.out (fun e => by omega), ⟨u.x, by rw [HA.out]; exact h4.1, .inr ⟨pre, u, rfl, rfl⟩⟩, fun v hv => ?_, fun v hv => ?_, low_one HI.out.low h4.2 (by have := HA.out; omega)⟩
      · rcases List.mem_append.1 hv with h | h
        · exact HI.out.zer v h
        · rw [List.mem_singleton.1 h]
          exact HE.out
      · rcases List.mem_append.1 hv with h | h
        · exact hat2 v ((HI.out.all v h).mono (fun k _ hk => HSub.out k hk))
        · rw [List.mem_singleton.1 h]
          exact hat2 u HAt.out
    · have heb : (u.e != 0) = true := by simpa using he
      have HE := Lib.hid he
      clear he
      gi_wp2_with fail
      refine region_round_T (fun X => X.heap[T6]? = some (.cells #[.int .i64 u.e, .int .i64 u.ea] 31 (0, 0))) (fun _ => true) rfl (by kernel_rfl) rfl ?_
      change AnyT _ _ _ _ _ _ _ _ 4 _ _ (World.drew _)
      have hW0 : Turned (fun k => k = A + 1 ∨ k = A + 1 + 1) W (World.drew W) := ⟨rfl, rfl, rfl, Nat.le_refl _, fun _ _ _ => rfl⟩
      have g1 : (World.drew W).heap[A + 1]? = some (.cells #[.int .i64 0, .slice none 0 0, .slice none 0 0, .slice none 0 0] 26 (0, 0)) := hres
      have g2 : (World.drew W).heap[A + 1 + 1]? = some (.cells #[.int .i64 0, .int .i64 0] 31 (0, 0)) := hflt
      have g6 : (World.drew W).heap[T6]? = some (.cells #[.int .i64 u.e, .int .i64 u.ea] 31 (0, 0)) := HX6.out
      clear c0 c1 c2 c3 d0 d1 heb hlast
      generalize World.drew W = X at *
      refine AnyT.take (i := 0) (v := .agg #[.int .i64 0, .slice none 0 0, .slice none 0 0, .slice none 0 0]) rfl rfl (by kernel_rfl) (by kernel_rfl) (by kernel_rfl) (by kernel_rfl) (by kernel_rfl) (fun _ _ _ h => h) (by kernel_rfl) (fun x hx => by go_simp) (fun _ => rfl) g6 ?_
      try simp only [List.getElem_toArray, List.getElem_cons_zero, List.getElem_cons_succ, Act.put, List.setIfInBounds_toArray, List.set_cons_zero, List.set_cons_succ]
      refine AnyT.take (i := 1) (v := .agg #[.int .i64 u.e, .int .i64 u.ea]) rfl rfl (by kernel_rfl) (by kernel_rfl) (by kernel_rfl) (by kernel_rfl) (by kernel_rfl) (fun _ _ _ h => h) (by kernel_rfl) (fun x hx => by have c := heap_cell hx (i := 0) rfl; have c' := heap_cell hx (i := 1) rfl; simp only [List.getElem_toArray, List.getElem_cons_zero, List.getElem_cons_succ] at c c'; go_simp) (fun _ => rfl) g6 ?_
      try simp only [List.getElem_toArray, List.getElem_cons_zero, List.getElem_cons_succ, Act.put, List.setIfInBounds_toArray, List.set_cons_zero, List.set_cons_succ]
      refine AnyT.ready (rs := [2]) (by kernel_rfl) (by simp) (ReadyT.cons rfl (fun K hK => ?_) ReadyT.nil)
      refine stepIn_store_row rfl 26 _ _ rfl (A + 1) #[.int .i64 0, .slice none 0 0, .slice none 0 0, .slice none 0 0] rfl rfl 26 _ g1 (by kernel_rfl) rfl (by kernel_rfl) ?_
      have hg := grown_setRow X (A + 1) #[.int .i64 0, .slice none 0 0, .slice none 0 0, .slice none 0 0]
      have k1 : (X.setRow (A + 1) #[.int .i64 0, .slice none 0 0, .slice none 0 0, .slice none 0 0]).heap[A + 1]? = some (.cells #[.int .i64 0, .slice none 0 0, .slice none 0 0, .slice none 0 0] 26 (0, 0)) := setRow_heap _ _ _ _ _ _ g1
      have k2 := heap_kept g2 hg (fun e => by injection e with e; omega)
      have k6 := heap_kept g6 hg (fun e => by injection e with e; omega)
      have hT1 := Turned.trans' hW0 (⟨hg.os, hg.tape, hg.output, hg.size, fun k hk hn => hg.block k hk (fun e => hn (.inl (by injection e)))⟩ : Turned (fun k => k = A + 1 ∨ k = A + 1 + 1) X _)
      refine hK _ _ (fun _ => k6) ?_
      clear hK K hg g1 g2 g6 hW0
      generalize X.setRow (A + 1) #[.int .i64 0, .slice none 0 0, .slice none 0 0, .slice none 0 0] = X1 at *
      try simp only [List.getElem_toArray, List.getElem_cons_zero, List.getElem_cons_succ, Act.put, List.setIfInBounds_toArray, List.set_cons_zero, List.set_cons_succ]
      refine AnyT.ready (rs := [3]) (by kernel_rfl) (by simp) (ReadyT.cons rfl (fun K hK => ?_) ReadyT.nil)
      refine stepIn_store_row rfl 31 _ _ rfl (A + 1 + 1) #[.int .i64 u.e, .int .i64 u.ea] rfl rfl 31 _ k2 (by kernel_rfl) rfl (by kernel_rfl) ?_
      have hg := grown_setRow X1 (A + 1 + 1) #[.int .i64 u.e, .int .i64 u.ea]
      have j2 : (X1.setRow (A + 1 + 1) #[.int .i64 u.e, .int .i64 u.ea]).heap[A + 1 + 1]? = some (.cells #[.int .i64 u.e, .int .i64 u.ea] 31 (0, 0)) := setRow_heap _ _ _ _ _ _ k2
      have j1 := heap_kept k1 hg (fun e => by injection e with e; omega)
      have j6 := heap_kept k6 hg (fun e => by injection e with e; omega)
      have hT2 := Turned.trans' hT1 (⟨hg.os, hg.tape, hg.output, hg.size, fun k hk hn => hg.block k hk (fun e => hn (.inr (by injection e)))⟩ : Turned (fun k => k = A + 1 ∨ k = A + 1 + 1) X1 _)
      refine hK _ _ (fun _ => j6) ?_
      clear hK K hg k1 k2 k6 hT1
      generalize X1.setRow (A + 1 + 1) #[.int .i64 u.e, .int .i64 u.ea] = B at *
      try simp only [List.getElem_toArray, List.getElem_cons_zero, List.getElem_cons_succ, Act.put, List.setIfInBounds_toArray, List.set_cons_zero, List.set_cons_succ]
      refine AnyT.done (by kernel_rfl) ?_ _
      gi_wp2
      have hlow : Below w.heap.size w B := HI.out.low.trans (Turned.to_b hT2 (fun k hk e => by have := HA.out; omega) HI.out.low.size)
      have hzW := HZA.out
      refine ⟨⟨hT2.block _ (by omega) (fun e => by omega), hT2.block _ (by omega) (fun e => by omega)⟩, Turned.weak' hT2 (fun k _ e => by rcases e with rfl | rfl; exact HnS2.out _ (by omega) (by omega); exact HnS2.out _ (by omega) (by omega)), rfl, by rw [HA.out]; exact j1, ⟨pre, u, rfl, HI.out.zer, HE.out, by rw [HA.out]; exact j2⟩, hlow⟩
  case done =>
    rintro C S pre W1 W hC0 hmap hok hI hT hall hK
    have hC : W0.heap.size ≤ C := by omega
    clear hC0
    have hIW := hI.turn hT hok (by have := HA.out; omega) hall
    have hres := hIW.res
    have hflt := hIW.flt
    obtain ⟨y, hlast, hy⟩ := hIW.last
    rw [HA.out] at hres hflt hlast
    obtain ⟨p, u, rfl, rfl⟩ : ∃ p u, pre = p ++ [u] ∧ y = u.x := hy.resolve_left (fun h => by
      obtain ⟨tl, htl⟩ := upsD_head 3 x.m (mdE x.m)
      rw [h.1, htl] at hmap
      cases hmap)
    have hat := hIW.all u (by simp)
    have HR : Hid (LatR x.m = (u.x.m, 0, 0)) := Lib.hid (by unfold LatR; rw [← hmap]; exact lat_snoc p u zeroM hIW.zer)
    have HLow := Lib.hid hIW.low
    have HCp := Lib.hid (copy_any hat.1 hat.2.1)
    have HRs := Lib.hid hres
    have HFl := Lib.hid hflt
    have HK := Lib.hid hK
    have c0 : W.cell? ⟨A + 1 + 1 + 1, 0, none⟩ = some (.int .i64 u.x.ver) := heap_cell hlast rfl
    have c1 : W.cell? ⟨A + 1 + 1 + 1, 1, none⟩ = some (.slice u.x.pa u.x.procs.length u.x.pc) := heap_cell hlast rfl
    have c2 : W.cell? ⟨A + 1 + 1 + 1, 2, none⟩ = some (.slice u.x.la u.x.links.length u.x.lc) := heap_cell hlast rfl
    have c3 : W.cell? ⟨A + 1 + 1 + 1, 3, none⟩ = some (.slice u.x.ea u.x.events.length u.x.ec) := heap_cell hlast rfl
    clear hI hT hall hok hmap hy hIW hat hres hflt hlast hK
    go_wp2_with fail
    refine HCp.out.mono ?_
    rintro e W2 ⟨x1, rfl, hm, hown, hb⟩
    clear HCp c0 c1 c2 c3
    have hres := heap_below HRs.out hb (heap_lt HRs.out)
    have hflt := heap_below HFl.out hb (heap_lt HFl.out)
    have hK2 := heap_below HK.out hb (heap_lt HK.out)
    have hlow := HLow.out.trans (hb.mono HLow.out.size)
    have HR2 := Lib.hid hres
    have HF2 := Lib.hid hflt
    have HK2 := Lib.hid hK2
    have HLow2 := Lib.hid hlow
    have HOw := Lib.hid (hown.mono HLow.out.size)
    have HMm := Lib.hid hm
    have d0 : W2.cell? ⟨A + 1, 0, none⟩ = some (.int .i64 0) := heap_cell hres rfl
    have d1 : W2.cell? ⟨A + 1, 1, none⟩ = some (.slice none 0 0) := heap_cell hres rfl
    have d2 : W2.cell? ⟨A + 1, 2, none⟩ = some (.slice none 0 0) := heap_cell hres rfl
    have d3 : W2.cell? ⟨A + 1, 3, none⟩ = some (.slice none 0 0) := heap_cell hres rfl
    have e0 : W2.cell? ⟨A + 1 + 1, 0, none⟩ = some (.int .i64 0) := heap_cell hflt rfl
    have e1 : W2.cell? ⟨A + 1 + 1, 1, none⟩ = some (.int .i64 0) := heap_cell hflt rfl
    have f0 := heap_frozen hres 0
    have f1 := heap_frozen hres 1
    have f2 := heap_frozen hres 2
    have f3 := heap_frozen hres 3
    have g0 := heap_frozen hflt 0
    have g1 := heap_frozen hflt 1
    clear hres hflt hK2 hlow hown hm hb
    go_wp2
    have h4 := set4 HR2.out (.int .i64 x1.ver) (.slice x1.pa x1.procs.length x1.pc) (.slice x1.la x1.links.length x1.lc) (.slice x1.ea x1.events.length x1.ec)
    have hf4 := h4.2.old HF2.out (fun e => by omega)
    have h2 := set2 hf4 (.int .i64 0) (.int .i64 0)
    have hres := h2.2.old h4.1 (fun e => by omega)
    have hflt := h2.1
    have hlow := (low_one (low_one HLow2.out h4.2 (by have := HA.out; omega)) h2.2 (by have := HA.out; omega))
    have hown := (HOw.out.boxT HR2.out rfl h4.2).boxT hf4 rfl h2.2
    have hK3 := h2.2.old (h4.2.old HK2.out (fun e => by have h := HK2.out; rw [e, HR2.out] at h; cases h)) (fun e => by have h := HK2.out; rw [e, HF2.out] at h; cases h)
    clear d0 d1 d2 d3 e0 e1 f0 f1 f2 f3 g0 g1 h4 hf4 h2
    generalize (((((W2.setCell ⟨A + 1, 0, none⟩ (.int .i64 x1.ver)).setCell ⟨A + 1, 1, none⟩ (.slice x1.pa x1.procs.length x1.pc)).setCell ⟨A + 1, 2, none⟩ (.slice x1.la x1.links.length x1.lc)).setCell ⟨A + 1, 3, none⟩ (.slice x1.ea x1.events.length x1.ec)).setCell ⟨A + 1 + 1, 0, none⟩ (.int .i64 0)).setCell ⟨A + 1 + 1, 1, none⟩ (.int .i64 0) = X at *
    refine ⟨by simp, .inl ⟨_, _, rfl, run_takeDeferred hK3, ?_⟩⟩
    have hC1 : A + 1 ≠ C := fun e => by rw [← e, hres] at hK3; cases hK3
    have hC2 : A + 1 + 1 ≠ C := fun e => by rw [← e, hflt] at hK3; cases hK3
    refine ⟨_, up_ret rfl ((World.putObj_heap_other (o := .deferred none) hC1).trans hres) ((World.putObj_heap_other (o := .deferred none) hC2).trans hflt) rfl rfl, ?_⟩
    refine ⟨x1, by rw [HR.out], by rw [HR.out]; exact HMm.out, ?_, ?_⟩
    · refine hown.turned (R := fun k => k = C) ⟨rfl, rfl, rfl, by simp, fun k hk hn => World.putObj_heap_other hn⟩ (fun b cur t hc _ e => by rw [e, hK3] at hc; cases hc)
    · exact hlow.grown (grownBy_putObj' X C (.deferred none)) hlow.size (fun k e => by cases e; have := HA.out; omega)
  case stop =>
    rintro C c S pre W1 W hC0 hmap hok ⟨rfl, hI⟩ hT hall hK
    have hC : W0.heap.size ≤ C := by omega
    clear hC0
    have hn : ∀ k, k < W0.heap.size → ¬ OwnB (fun k => k < A ∨ k = A + 1 + 1 + 1 + 1) S k := fun k hk h => (hok k h.1).1.elim h.2 (fun h2 => by omega)
    have hres := hT.old hI.res (hn _ (by have := HA.out; omega))
    obtain ⟨p, u, rfl, hz, hu, hf⟩ := hI.flt
    have hflt := hT.old hf (hn _ (by have := HA.out; omega))
    have hlow : Below w.heap.size w W := hI.low.trans (Turned.to_b hT (fun k hk => hn k (by have := HA.out; omega)) hI.low.size)
    rw [HA.out] at hres hflt
    have HR : Hid (LatR x.m = (zeroM, u.e, u.ea)) := Lib.hid (by
      obtain ⟨t, ht⟩ := hmap
      unfold LatR
      rw [← ht]
      exact lat_bad p u zeroM t hz hu)
    gi_wp2
    refine ⟨by simp, .inl ⟨_, _, rfl, run_takeDeferred hK, ?_⟩⟩
    have hC1 : A + 1 ≠ C := fun e => by rw [← e, hres] at hK; cases hK
    have hC2 : A + 1 + 1 ≠ C := fun e => by rw [← e, hflt] at hK; cases hK
    refine ⟨_, up_ret rfl ((World.putObj_heap_other (o := .deferred none) hC1).trans hres) ((World.putObj_heap_other (o := .deferred none) hC2).trans hflt) rfl rfl, ?_⟩
    exact ⟨noneV, by rw [HR.out]; rfl, by rw [HR.out]; rfl, own_none _ _, hlow.grown (grownBy_putObj' W C (.deferred none)) hlow.size (fun k e => by cases e; have := HA.out; omega)⟩
end Go.Proofs.Ytgnlehenbdcgmaa.Md

namespace Go.Proofs.Ytgnlehenbdcgmaa.Md
open Go.RowKit Go.Shelf

attribute [local go_sem] Oper.semAt_some
theorem wide_fn (f : FuncId) : Fence.wide.fn f = True := rfl
attribute [local go_sem, local simp] wide_fn
theorem RoundIn.anyDepth' {F : Fence} (hd : F.depth = none) {m m' : Nat} {P : Program} {l : Nat} {f : FuncId} {tmps : Array Value} {assign body : Code} {w : World} {R : Ending → World → Prop}
    (h : RoundIn F m P l f tmps assign body w R) : RoundIn F m' P l f tmps assign body w R := ⟨h.1, fun c cs _ => h.2 c cs (fun d h => by rw [hd] at h; cases h)⟩
/-- The models without a fault, plainly. -/
def waysL : List (ModelM × Int × Int) → List ModelM
  | [] => []
  | (m, e, _) :: r => if e = 0 then m :: waysL r else []
def waysD (m : ModelM) : List ModelM := waysL (upsD 3 m (mdE m))
theorem ways_pre : ∀ (p : List UpE) (t : List (ModelM × Int × Int)), (∀ v ∈ p, v.e = 0) → waysL (p.map plU ++ t) = p.map (fun v => v.x.m) ++ waysL t
  | [], t, h => rfl
  | v :: p, t, h => by
    have h1 := h v (by simp)
    have := ways_pre p t (fun y hy => h y (by simp; exact .inr hy))
    simp only [List.map_cons, List.cons_append, waysL, plU, h1, if_true]
    rw [← this]
theorem ways_bad {p : List UpE} {u : UpE} {t : List (ModelM × Int × Int)} (h : ∀ v ∈ p, v.e = 0) (hu : u.e ≠ 0) : waysL ((p ++ [u]).map plU ++ t) = p.map (fun v => v.x.m) := by
  rw [List.map_append, List.append_assoc, ways_pre p _ h]
  simp [waysL, plU, hu]
def encW (y : ModelV) : Array Value := #[.agg #[.int .i64 y.ver, .slice y.pa y.procs.length y.pc, .slice y.la y.links.length y.lc, .slice y.ea y.events.length y.ec]]
def AtW (S : Nat → Prop) (y : ModelV) (W : World) : Prop := ModelAt W.heap.size W y ∧ Sized y.m ∧ InS S y
theorem AtW.stay {S : Nat → Prop} {u : ModelV} {A B : World} (h : AtW S u A) (hs : CellsStay A B) : AtW S u B := ⟨h.1.stay hs, h.2.1, h.2.2⟩
theorem AtW.mono {S S' : Nat → Prop} {u : ModelV} {A : World} (h : AtW S u A) (hs : ∀ k, k < A.heap.size → S k → S' k) : AtW S' u A := ⟨h.1, h.2.1, h.2.2.under h.1 hs⟩
theorem Turned.then_ {R R' : Nat → Prop} {A B C : World} (h : Turned R A B) (k : Turned R' B C) (hR : ∀ i, i < A.heap.size → R' i → R i) : Turned R A C :=
  ⟨k.os.trans h.os, k.tape.trans h.tape, k.output.trans h.output, Nat.le_trans h.size k.size, fun c hc hn => (k.block c (Nat.lt_of_lt_of_le hc h.size) (fun e => hn (hR c hc e))).trans (h.block c hc hn)⟩
/-- Between two rounds. -/
structure Iw (J : (Nat → Prop) → List ModelV → World → Prop) (S0 : Nat → Prop) (l Z b : Nat) (So : Nat → Prop) (preo : List ModelV) (A0 : World) (Si : Nat → Prop) (pre : List UpE) (W : World) : Prop where
  j : J So preo A0
  tu : Turned (OwnB S0 So) A0 W
  all : ∀ x' ∈ preo, ∀ S', AtW S' x' A0 → AtW S' x' W
  bx : W.heap[Z]? = some (.cells #[.func (.yield l) #[] #[]] 28 (0, 0))
  bz : So Z ∨ A0.heap.size ≤ Z
  s0 : ∀ k, S0 k → So k
  sub : ∀ k, Si k → So k ∨ A0.heap.size ≤ k
  r0 : So b ∨ A0.heap.size ≤ b
  r1 : So (b + 1) ∨ A0.heap.size ≤ b + 1
  map : preo.map ModelV.m = pre.map (fun v => v.x.m)
  zer : ∀ v ∈ pre, v.e = 0
  free : ∀ y ∈ preo, InS (fun k => ¬ Si k ∧ k < W.heap.size) y
/-- When no more is asked, or a fault was met. -/
structure Ix (J Jx : (Nat → Prop) → List ModelV → World → Prop) (S0 : Nat → Prop) (b : Nat) (So : Nat → Prop) (preo : List ModelV) (A0 : World) (Si : Nat → Prop) (pre : List UpE) (W : World) : Prop where
  j : (J So preo A0 ∧ ∃ p u, pre = p ++ [u] ∧ (∀ v ∈ p, v.e = 0) ∧ u.e ≠ 0 ∧ preo.map ModelV.m = p.map (fun v => v.x.m)) ∨ (Jx So preo A0 ∧ (∀ v ∈ pre, v.e = 0) ∧ preo.map ModelV.m = pre.map (fun v => v.x.m))
  tu : Turned (OwnB S0 So) A0 W
  all : ∀ x' ∈ preo, ∀ S', AtW S' x' A0 → AtW S' x' W
  r1 : So (b + 1) ∨ A0.heap.size ≤ b + 1
  r0 : So b ∨ A0.heap.size ≤ b
  free : ∀ y ∈ preo, InS (fun k => ¬ Si k ∧ k < W.heap.size) y
  sub : ∀ k, Si k → So k ∨ A0.heap.size ≤ k
theorem turned_rec {S0 So : Nat → Prop} {A0 W : World} {r : Nat} (h : Turned (OwnB S0 So) A0 W) (hr : So r ∨ A0.heap.size ≤ r) (hn : ¬ S0 r) (o : Obj) : Turned (OwnB S0 So) A0 (W.putObj r o) :=
  Turned.then_ h (R' := fun k => k = r) ⟨rfl, rfl, rfl, by simp, fun k hk hn => World.putObj_heap_other hn⟩ (fun i hi e => by
    rw [e] at hi ⊢
    exact ⟨hr.resolve_right (by omega), hn⟩)
theorem Iw.put {J : (Nat → Prop) → List ModelV → World → Prop} {S0 : Nat → Prop} {l Z b : Nat} {So : Nat → Prop} {preo : List ModelV} {A0 : World} {Si : Nat → Prop} {pre : List UpE} {W : World} (h : Iw J S0 l Z b So preo A0 Si pre W) (hn : ¬ S0 (b + 1)) {o : Obj} (o' : Obj) (ho : W.heap[b + 1]? = some o) (hc : o.isCells = false) : Iw J S0 l Z b So preo A0 Si pre (W.putObj (b + 1) o') := by
  have hs := CellsStay.put o' ho hc
  exact ⟨h.j, turned_rec h.tu h.r1 hn o', fun x' hx' S' ha => (h.all x' hx' S' ha).stay hs, hs.2 _ _ h.bx rfl, h.bz, h.s0, h.sub, h.r0, h.r1, h.map, h.zer, fun y hy => (h.free y hy).mono (fun k hk => ⟨hk.1, Nat.lt_of_lt_of_le hk.2 hs.1⟩)⟩
theorem Ix.put {J Jx : (Nat → Prop) → List ModelV → World → Prop} {S0 : Nat → Prop} {b : Nat} {So : Nat → Prop} {preo : List ModelV} {A0 : World} {Si : Nat → Prop} {pre : List UpE} {W : World} (h : Ix J Jx S0 b So preo A0 Si pre W) (hn : ¬ S0 (b + 1)) {o : Obj} (o' : Obj) (ho : W.heap[b + 1]? = some o) (hc : o.isCells = false) : Ix J Jx S0 b So preo A0 Si pre (W.putObj (b + 1) o') := by
  have hs := CellsStay.put o' ho hc
  exact ⟨h.j, turned_rec h.tu h.r1 hn o', fun x' hx' S' ha => (h.all x' hx' S' ha).stay hs, h.r1, h.r0, fun y hy => (h.free y hy).mono (fun k hk => ⟨hk.1, Nat.lt_of_lt_of_le hk.2 hs.1⟩), h.sub⟩
set_option maxRecDepth 100000 in
set_option maxHeartbeats 4000000 in
theorem ways1_seq {x : ModelV} {w : World} {Bx : Nat} {S0 : Nat → Prop} (hBx : w.heap[Bx]? = some (.cells #[.int .i64 x.ver, .slice x.pa x.procs.length x.pc, .slice x.la x.links.length x.lc, .slice x.ea x.events.length x.ec] 26 (0, 0))) (hx : ModelAt w.heap.size w x) (hs : Sized x.m) (hS0 : ∀ k, S0 k → k < w.heap.size) (hSx : InS S0 x) (q : Nat) (hq : 1 ≤ q) :
    SeqS Fence.wide q Try.prog 87 #[.pointer (some ⟨Bx, 0, none⟩)] encW ModelV.m AtW (waysD x.m) S0 w := by
  intro l J Jx W hW hY h0
  have hbx := heap_below hBx hW (heap_lt hBx)
  have hxW := hx.on hW
  have hS0W : ∀ k, S0 k → k < W.heap.size := fun k hk => Nat.lt_of_lt_of_le (hS0 k hk) hW.size
  have hz2 : ((W.alloc (.cells #[.func (.yield l) #[] #[]] 28)).alloc (.cells #[.int .i64 x.ver, .slice x.pa x.procs.length x.pc, .slice x.la x.links.length x.lc, .slice x.ea x.events.length x.ec] 26)).heap.size = W.heap.size + 2 := by simp
  have hb2 : Below W.heap.size W ((W.alloc (.cells #[.func (.yield l) #[] #[]] 28)).alloc (.cells #[.int .i64 x.ver, .slice x.pa x.procs.length x.pc, .slice x.la x.links.length x.lc, .slice x.ea x.events.length x.ec] 26)) := (below_one W _).alloc (by simp) _
  have hcl : ((W.alloc (.cells #[.func (.yield l) #[] #[]] 28)).alloc (.cells #[.int .i64 x.ver, .slice x.pa x.procs.length x.pc, .slice x.la x.links.length x.lc, .slice x.ea x.events.length x.ec] 26)).heap[W.heap.size + 1]? = some (.cells #[.int .i64 x.ver, .slice x.pa x.procs.length x.pc, .slice x.la x.links.length x.lc, .slice x.ea x.events.length x.ec] 26 (0, 0)) := heap_new _ (by simp)
  have hyb : ((W.alloc (.cells #[.func (.yield l) #[] #[]] 28)).alloc (.cells #[.int .i64 x.ver, .slice x.pa x.procs.length x.pc, .slice x.la x.links.length x.lc, .slice x.ea x.events.length x.ec] 26)).heap[W.heap.size]? = some (.cells #[.func (.yield l) #[] #[]] 28 (0, 0)) := heap_alloc (heap_new _ rfl) _
  have HSQ := Lib.hid (ups1_seq (S0 := (fun k => S0 k ∨ k = W.heap.size + 1)) hcl (hxW.on hb2) hs (fun k hk => by rw [hz2]; rcases hk with h | h; have := hS0W k h; omega; omega) (hSx.mono (fun k hk => .inl hk)) (q - 1))
  have HI0 : Hid (∀ r : Loop, ∃ So preo A0, Iw J S0 l W.heap.size (W.heap.size + 2) So preo A0 (fun k => S0 k ∨ k = W.heap.size + 1) [] ((((W.alloc (.cells #[.func (.yield l) #[] #[]] 28)).alloc (.cells #[.int .i64 x.ver, .slice x.pa x.procs.length x.pc, .slice x.la x.links.length x.lc, .slice x.ea x.events.length x.ec] 26)).alloc (.deferred (some []))).alloc (.loop r))) := Lib.hid (fun r => ⟨S0, [], W, h0, Turned.of_b ((hb2.alloc (by simp; omega) _).alloc (by simp; omega) _), fun x' hx' => (by cases hx'), heap_alloc (heap_alloc hyb _) _, .inr (Nat.le_refl _), fun k hk => hk, fun k hk => hk.imp id (fun h => by omega), .inr (by omega), .inr (by omega), rfl, fun v hv => (by cases hv), fun v hv => (by cases hv)⟩)
  have HBx := Lib.hid hbx
  have HY := Lib.hid hY
  have HS0 := Lib.hid hS0W
  clear hY h0 hBx hW hx hs hS0 hSx hbx hxW hS0W hb2 hcl hyb
  have c0 : W.cell? ⟨Bx, 0, none⟩ = some (.int .i64 x.ver) := heap_cell HBx.out rfl
  have c1 : W.cell? ⟨Bx, 1, none⟩ = some (.slice x.pa x.procs.length x.pc) := heap_cell HBx.out rfl
  have c2 : W.cell? ⟨Bx, 2, none⟩ = some (.slice x.la x.links.length x.lc) := heap_cell HBx.out rfl
  have c3 : W.cell? ⟨Bx, 3, none⟩ = some (.slice x.ea x.events.length x.ec) := heap_cell HBx.out rfl
  have hlB : Bx < W.heap.size := heap_lt HBx.out
  have hnB : ¬ Bx = W.heap.size := by omega
  refine callsIn_of_wp_marks Try.func87 rfl trivial ?_ rfl
  simp only [Try.ntmps87, List.size_toArray, List.length_cons, List.length_nil, Nat.reduceAdd, Nat.reduceSub, Array.replicate_succ, Array.replicate_zero, List.push_toArray, List.append_toArray, List.nil_append, List.cons_append]
  refine wpIn_wide.2 ?_
  go_wp2_with fail
  refine (ups_any x _).mono ?_
  rintro e w5 ⟨rfl, rfl⟩
  go_wp2_with fail
  generalize ((W.alloc (.cells #[.func (.yield l) #[] #[]] 28)).alloc (.cells #[.int .i64 x.ver, .slice x.pa x.procs.length x.pc, .slice x.la x.links.length x.lc, .slice x.ea x.events.length x.ec] 26)) = W0 at *
  have hzW := HBx.out
  clear c0 c1 c2 c3 hnB hlB hzW
  obtain ⟨Z, hZ⟩ : ∃ Z, W.heap.size = Z := ⟨_, rfl⟩
  rw [hZ] at HSQ hz2 HI0 HS0 ⊢
  clear hZ HBx
  refine (wpIn_wide (n := q)).1 ?_
  refine wpIn_rangeFunc_seqS rfl hq (gf := 81) (lb := #[.pointer (some ⟨Z + 1, 0, none⟩)]) rfl trivial (enters_of Try.func81 (by kernel_rfl) rfl) HSQ.out (fun k hk => by rw [hz2]; rcases hk with h | h; have := HS0.out k h; omega; omega) (fun S u X Y h hc => h.stay hc) (fun S S' u X h hs => h.mono hs) (Below.refl _ _) (fun _ => rfl)
    (fun Si pre W => ∃ So preo A0, Iw J S0 l Z (Z + 2) So preo A0 Si pre W) (fun c Si pre W => c = .ret ∧ ∃ So preo A0, Ix J Jx S0 (Z + 2) So preo A0 Si pre W)
    (fun Si pre X o o' hs ho hc => by
      obtain ⟨So, preo, A0, h⟩ := hs
      rw [hz2] at ho ⊢
      exact ⟨So, preo, A0, h.put (fun h => by have := HS0.out _ h; omega) o' ho hc⟩)
    (fun c Si pre X o o' hs ho hc => by
      obtain ⟨hc', So, preo, A0, h⟩ := hs
      rw [hz2] at ho ⊢
      exact ⟨hc', So, preo, A0, h.put (fun h => by have := HS0.out _ h; omega) o' ho hc⟩)
    HI0.out
    (fun u a' W => ∃ T5 T6, a' = { tmps := #[.func (.yield l) #[] #[], .pointer (some ⟨Bx, 0, none⟩), .pointer (some ⟨Z, 0, none⟩), .pointer (some ⟨T5, 0, none⟩), .pointer (some ⟨T6, 0, none⟩), .agg #[.int .i64 x.ver, .slice x.pa x.procs.length x.pc, .slice x.la x.links.length x.lc, .slice x.ea x.events.length x.ec], .func (.func 81) #[] #[.pointer (some ⟨Z + 1, 0, none⟩)], .agg #[.int .i64 u.x.ver, .slice u.x.pa u.x.procs.length u.x.pc, .slice u.x.la u.x.links.length u.x.lc, .slice u.x.ea u.x.events.length u.x.ec], .agg #[.int .i64 u.e, .int .i64 u.ea], undef, undef, undef, undef, undef, undef, undef, undef, undef, undef], defers := [] } ∧ W.heap[T5]? = some (.cells #[.int .i64 u.x.ver, .slice u.x.pa u.x.procs.length u.x.pc, .slice u.x.la u.x.links.length u.x.lc, .slice u.x.ea u.x.events.length u.x.ec] 26 (0, 0)) ∧ W.heap[T6]? = some (.cells #[.int .i64 u.e, .int .i64 u.ea] 31 (0, 0)))
    (fun u a' W l o o' hs hl ho hc => by
      obtain ⟨T5, T6, h1, h2, h3⟩ := hs
      have hp := CellsStay.put o' ho hc
      exact ⟨T5, T6, h1, hp.2 _ _ h2 rfl, hp.2 _ _ h3 rfl⟩) ?assign ?body ?done ?stop
  case assign =>
    rintro l' Si pre u A0 W K hI hT hat hK
    unfold encU
    gi_wp2
    refine hK _ _ (((Below.refl _ _).alloc (Nat.le_refl _) _).alloc (by simp) _) ⟨W.heap.size, W.heap.size + 1, rfl, heap_alloc (heap_new _ rfl) _, heap_new _ (by simp)⟩
  case body =>
    rintro l' m Si pre u a' Ai W hI hok hzA hT hall hm1 hm2 ⟨T5, T6, rfl, h5, h6⟩ hat hpre
    obtain ⟨So, preo, A0, hi⟩ := hI
    have hlZ : Z + 2 ≤ Ai.heap.size := by omega
    have htu : Turned (OwnB S0 So) A0 W := Turned.then_ hi.tu hT (fun k hk h => by
      have h1 := hok k h.1
      have h2 : ¬ S0 k := fun h0 => h.2 (.inl h0)
      refine ⟨(hi.sub k h.1).resolve_right (by omega), h2⟩)
    have hbz : W.heap[Z]? = some (.cells #[.func (.yield l) #[] #[]] 28 (0, 0)) := hT.old hi.bx (fun h => by
      rcases (hok Z h.1).1 with h1 | h1
      · exact h.2 h1
      · omega)
    have hallo : ∀ x' ∈ preo, ∀ S', AtW S' x' A0 → AtW S' x' W := fun x' hx' S' h => by
      have h1 := hi.all x' hx' S' h
      exact ⟨h1.1.keep (S := fun k => ¬ Si k ∧ k < Ai.heap.size) (Turned.weak' hT (fun k _ hk => fun hn => hn.1 hk.1)) (hi.free x' hx'), h1.2.1, h1.2.2⟩
    have hmW : ∀ k, Si k ∨ (Ai.heap.size ≤ k ∧ k < m) → So k ∨ A0.heap.size ≤ k := fun k hk => by
      rcases hk with h | h
      · exact hi.sub k h
      · have := hi.tu.size
        exact .inr (by omega)
    have hmB : ∀ k, Si k ∨ (Ai.heap.size ≤ k ∧ k < m) → k < W.heap.size := fun k hk => by
      rcases hk with h | h
      · have := (hok k h).2
        omega
      · omega
    have HI := Lib.hid hi
    have HTu := Lib.hid htu
    have HAl := Lib.hid hallo
    have HAt := Lib.hid hat
    have HPre := Lib.hid hpre
    have HBz := Lib.hid hbz
    have HmW := Lib.hid hmW
    have HmB := Lib.hid hmB
    have HZA := Lib.hid (And.intro hzA (And.intro hm1 hm2))
    have HX5 := Lib.hid h5
    have HX6 := Lib.hid h6
    have hzz : Z < W.heap.size := heap_lt hbz
    have hfree : ∀ y ∈ preo, InS (fun k => ¬ (Si k ∨ (Ai.heap.size ≤ k ∧ k < m)) ∧ k < W.heap.size) y := fun y hy => (hi.free y hy).mono (fun k hk => ⟨fun h => h.elim hk.1 (fun h => by omega), by omega⟩)
    have HFr := Lib.hid hfree
    clear hi htu hallo hat hpre hbz hmW hmB hzA hm1 hm2 hT hall h5 h6 hok hfree hlZ
    generalize hS2 : (fun k => Si k ∨ (Ai.heap.size ≤ k ∧ k < m)) = S2 at *
    have HmW2 : Hid (∀ k, S2 k → So k ∨ A0.heap.size ≤ k) := Lib.hid (by rw [← hS2]; exact HmW.out)
    have HmB2 : Hid (∀ k, S2 k → k < W.heap.size) := Lib.hid (by rw [← hS2]; exact HmB.out)
    have HFr2 : Hid (∀ y ∈ preo, InS (fun k => ¬ S2 k ∧ k < W.heap.size) y) := Lib.hid (by rw [← hS2]; exact HFr.out)
    clear hS2 HmW HmB HFr
    by_cases he : u.e = 0
    · have heb : (u.e != 0) = false := by simpa using he
      have HE := Lib.hid he
      clear he
      gi_wp2_with fail
      refine region_round_T (fun X => Below W.heap.size W X) (fun j => decide (j < 7)) rfl (by kernel_rfl) rfl ?_
      change AnyT _ _ _ _ _ _ _ _ 10 _ _ (World.drew _)
      have hd : Below W.heap.size W W.drew := (Below.refl _ _).drew
      have C6 : ∀ X, Below W.heap.size W X → X.cell? ⟨T6, 0, none⟩ = some (.int .i64 u.e) := fun X hX => heap_cell (heap_below HX6.out hX (heap_lt HX6.out)) rfl
      have C5 : ∀ (i : Nat) v, (#[.int .i64 u.x.ver, .slice u.x.pa u.x.procs.length u.x.pc, .slice u.x.la u.x.links.length u.x.lc, .slice u.x.ea u.x.events.length u.x.ec] : Array Value)[i]? = some v → ∀ X, Below W.heap.size W X → X.cell? ⟨T5, i, none⟩ = some v := fun i v hv X hX => heap_cell (heap_below HX5.out hX (heap_lt HX5.out)) hv
      have CZ : ∀ X, Below W.heap.size W X → X.cell? ⟨Z, 0, none⟩ = some (.func (.yield l) #[] #[]) := fun X hX => heap_cell (heap_below HBz.out hX (heap_lt HBz.out)) rfl
      have HC5 := Lib.hid C5
      have HC6 := Lib.hid C6
      have HCZ := Lib.hid CZ
      clear C5 C6 CZ
      generalize World.drew W = X at *
      refine AnyT.take (i := 0) (v := .pointer (some ⟨T6, 0, none⟩)) rfl rfl (by kernel_rfl) (by kernel_rfl) (by kernel_rfl) (by kernel_rfl) (by kernel_rfl) (fun _ _ _ h => h) (by kernel_rfl) (fun x hx => by go_simp) (fun _ => rfl) hd ?_
      try simp only [List.getElem_toArray, List.getElem_cons_zero, List.getElem_cons_succ, Act.put, List.setIfInBounds_toArray, List.set_cons_zero, List.set_cons_succ]
      refine AnyT.take (i := 1) (v := .int .i64 u.e) rfl rfl (by kernel_rfl) (by kernel_rfl) (by kernel_rfl) (by kernel_rfl) (by kernel_rfl) (fun _ _ _ h => h) (by kernel_rfl) (fun x hx => by have c := HC6.out x hx; go_simp) (fun _ => rfl) hd ?_
      try simp only [List.getElem_toArray, List.getElem_cons_zero, List.getElem_cons_succ, Act.put, List.setIfInBounds_toArray, List.set_cons_zero, List.set_cons_succ]
      refine AnyT.take (i := 2) (v := .bool false) rfl rfl (by kernel_rfl) (by kernel_rfl) (by kernel_rfl) (by kernel_rfl) (by kernel_rfl) (fun _ _ _ h => h) (by kernel_rfl) (fun x hx => by go_simp) (fun _ => rfl) hd ?_
      try simp only [List.getElem_toArray, List.getElem_cons_zero, List.getElem_cons_succ, Act.put, List.setIfInBounds_toArray, List.set_cons_zero, List.set_cons_succ]
      refine AnyT.take (i := 3) (v := .bool false) rfl rfl (by kernel_rfl) (by kernel_rfl) (by kernel_rfl) (by kernel_rfl) (by kernel_rfl) (fun _ _ _ h => h) (by kernel_rfl) (fun x hx => by go_simp) (fun _ => rfl) hd ?_
      try simp only [List.getElem_toArray, List.getElem_cons_zero, List.getElem_cons_succ, Act.put, List.setIfInBounds_toArray, List.set_cons_zero, List.set_cons_succ]
      refine AnyT.take (i := 4) (v := .func (.yield l) #[] #[]) rfl rfl (by kernel_rfl) (by kernel_rfl) (by kernel_rfl) (by kernel_rfl) (by kernel_rfl) (fun _ _ _ h => h) (by kernel_rfl) (fun x hx => by have c := HCZ.out x hx; go_simp) (fun _ => rfl) hd ?_
      try simp only [List.getElem_toArray, List.getElem_cons_zero, List.getElem_cons_succ, Act.put, List.setIfInBounds_toArray, List.set_cons_zero, List.set_cons_succ]
      refine AnyT.take (i := 5) (v := .agg #[.int .i64 u.x.ver, .slice u.x.pa u.x.procs.length u.x.pc, .slice u.x.la u.x.links.length u.x.lc, .slice u.x.ea u.x.events.length u.x.ec]) rfl rfl (by kernel_rfl) (by kernel_rfl) (by kernel_rfl) (by kernel_rfl) (by kernel_rfl) (fun _ _ _ h => h) (by kernel_rfl) (fun x hx => by have c0 := HC5.out 0 _ rfl x hx; have c1 := HC5.out 1 _ rfl x hx; have c2 := HC5.out 2 _ rfl x hx; have c3 := HC5.out 3 _ rfl x hx; go_simp) (fun _ => rfl) hd ?_
      try simp only [List.getElem_toArray, List.getElem_cons_zero, List.getElem_cons_succ, Act.put, List.setIfInBounds_toArray, List.set_cons_zero, List.set_cons_succ]
      refine AnyT.ready (rs := [6]) (by kernel_rfl) (by simp) (ReadyT.cons rfl (fun K hK => ?_) ReadyT.nil)
      go_simp
      refine ⟨fun h => (by cases h), (callsIn_wide.2 (copy_any (HAt.out.1.on hd) HAt.out.2.1)).mono ?_⟩
      rintro e A ⟨x1, rfl, hm, hown, hb⟩
      have hSA : Below W.heap.size W A := hd.trans (hb.mono hd.size)
      refine hK _ _ (fun _ => hSA) ?_
      clear hK K
      try simp only [List.getElem_toArray, List.getElem_cons_zero, List.getElem_cons_succ, Act.put, List.setIfInBounds_toArray, List.set_cons_zero, List.set_cons_succ]
      refine AnyT.ready (rs := [7]) (by kernel_rfl) (by simp) (ReadyT.cons rfl (fun K hK => ?_) ReadyT.nil)
      have hzX := hd.size
      have hzA := hSA.size
      have hz0 := HTu.out.size
      have hzp : ∀ v ∈ pre ++ [u], v.e = 0 := fun v hv => by
        rcases List.mem_append.1 hv with h | h
        · exact HI.out.zer v h
        · rw [List.mem_singleton.1 h]
          exact HE.out
      have hmp : (preo ++ [x1]).map ModelV.m = (pre ++ [u]).map (fun v => v.x.m) := by
        rw [List.map_append, List.map_append, HI.out.map]
        simp [hm]
      have hpre : (pre ++ [u]).map (fun v => v.x.m) <+: waysD x.m := by
        obtain ⟨t, ht⟩ := HPre.out
        unfold waysD
        rw [← ht, ways_pre _ _ hzp]
        exact ⟨_, rfl⟩
      obtain ⟨fn, tmps, assign, body, hyl, hRd⟩ := HY.out So preo x1 A0 A HI.out.j (turned_below HTu.out hSA) (fun x' hx' S' h => (HAl.out x' hx' S' h).stay (CellsStay.below hSA)) (by rw [hmp]; exact hpre) ⟨hown.at_, by rw [hm]; exact HAt.out.2.1, InS.own hown (fun k hk => .inr (by omega))⟩
      replace hyl : (Instr.yield l #[.agg #[.int .i64 x1.ver, .slice x1.pa x1.procs.length x1.pc, .slice x1.la x1.links.length x1.lc, .slice x1.ea x1.events.length x1.ec]]).run Try.prog A = _ := hyl
      have HRd := Lib.hid hRd
      have HSA := Lib.hid hSA
      have HOw := Lib.hid hown
      have HMp := Lib.hid hmp
      have HZp := Lib.hid hzp
      clear hRd hSA hown hmp hzp hpre hm hb
      go_simp
      refine ⟨fun h => (by cases h), RoundIn.mono (RoundIn.anyDepth' rfl HRd.out) ?_⟩
      clear hyl HRd
      rintro ee B ⟨hk, ⟨rfl, hj⟩ | ⟨rfl, hj⟩⟩
      · have hlZ : Z < A.heap.size := by omega
        have hrb : Z + 2 + 1 < A.heap.size := by have := HZA.out; omega
        have hkp : KeepS S2 W B := (KeepS.of_below HSA.out (fun k _ h => h)).trans (hk.mono (fun k _ h => HmW2.out k h))
        have hb0 : B.heap[Z + 2]? = W.heap[Z + 2]? := (hk.block _ (by omega) (fun hn => hn HI.out.r0)).trans (HSA.out.block _ (by have := HZA.out; omega))
        have hb1 : B.heap[Z + 2 + 1]? = W.heap[Z + 2 + 1]? := (hk.block _ (by omega) (fun hn => hn HI.out.r1)).trans (HSA.out.block _ (by have := HZA.out; omega))
        have hbx : B.heap[Z]? = some (.cells #[.func (.yield l) #[] #[]] 28 (0, 0)) := hk.at_ HI.out.bz (heap_below HBz.out HSA.out hzz)
        have hzB := hk.size
        have HW : Hid (Iw J S0 l Z (Z + 2) (fun k => So k ∨ (A0.heap.size ≤ k ∧ k < A.heap.size)) (preo ++ [x1]) B S2 (pre ++ [u]) B) := Lib.hid ⟨hj, Turned.refl' _ _, fun _ _ _ h => h, hbx, .inl (HI.out.bz.imp id (fun h => ⟨h, hlZ⟩)), fun k hk => .inl (HI.out.s0 k hk), fun k hk => .inl ((HmW2.out k hk).imp id (fun h => ⟨h, by have := HmB2.out k hk; omega⟩)), (.inl (HI.out.r0.imp id (fun h => ⟨h, by omega⟩))), (.inl (HI.out.r1.imp id (fun h => ⟨h, by omega⟩))), HMp.out, HZp.out, fun y hy => by
          rcases List.mem_append.1 hy with h | h
          · exact (HFr2.out y h).mono (fun k hk => ⟨hk.1, by omega⟩)
          · rw [List.mem_singleton.1 h]
            exact (InS.own (S := fun k => X.heap.size ≤ k) HOw.out (fun k hk => hk)).under HOw.out.at_ (fun k h1 h2 => ⟨fun h => by have := HmB2.out k h; omega, by omega⟩)⟩
        refine hK _ _ (fun h => absurd h (by decide)) ?_
        clear hK K
        try simp only [List.getElem_toArray, List.getElem_cons_zero, List.getElem_cons_succ, Act.put, List.setIfInBounds_toArray, List.set_cons_zero, List.set_cons_succ]
        refine AnyT.ready (rs := [8]) (by kernel_rfl) (by simp) (ReadyT.cons rfl (fun K hK => ?_) ReadyT.nil)
        go_simp
        refine hK _ _ (fun h => absurd h (by decide)) ?_
        clear hK K
        try simp only [List.getElem_toArray, List.getElem_cons_zero, List.getElem_cons_succ, Act.put, List.setIfInBounds_toArray, List.set_cons_zero, List.set_cons_succ]
        refine AnyT.ready (rs := [9]) (by kernel_rfl) (by simp) (ReadyT.cons rfl (fun K hK => ?_) ReadyT.nil)
        go_simp
        refine hK _ _ (fun h => absurd h (by decide)) ?_
        clear hK K
        try simp only [List.getElem_toArray, List.getElem_cons_zero, List.getElem_cons_succ, Act.put, List.setIfInBounds_toArray, List.set_cons_zero, List.set_cons_succ]
        refine AnyT.done (by kernel_rfl) ?_ _
        gi_wp2
        rw [hz2]
        exact ⟨⟨hb0, hb1⟩, hkp, _, _, _, HW.out⟩
      · have hrb : Z + 2 + 1 < A.heap.size := by have := HZA.out; omega
        have hkp : KeepS S2 W B := (KeepS.of_below HSA.out (fun k _ h => h)).trans (hk.mono (fun k _ h => HmW2.out k h))
        have hb0 : B.heap[Z + 2]? = W.heap[Z + 2]? := (hk.block _ (by omega) (fun hn => hn HI.out.r0)).trans (HSA.out.block _ (by have := HZA.out; omega))
        have hb1 : B.heap[Z + 2 + 1]? = W.heap[Z + 2 + 1]? := (hk.block _ (by omega) (fun hn => hn HI.out.r1)).trans (HSA.out.block _ (by have := HZA.out; omega))
        have HW : Hid (Ix J Jx S0 (Z + 2) (fun k => So k ∨ (A0.heap.size ≤ k ∧ k < A.heap.size)) (preo ++ [x1]) B S2 (pre ++ [u]) B) := Lib.hid ⟨.inr ⟨hj, HZp.out, HMp.out⟩, Turned.refl' _ _, fun _ _ _ h => h, .inl (HI.out.r1.imp id (fun h => ⟨h, by omega⟩)), .inl (HI.out.r0.imp id (fun h => ⟨h, by omega⟩)), fun y hy => by
          have hzB := hk.size
          rcases List.mem_append.1 hy with h | h
          · exact (HFr2.out y h).mono (fun k hk => ⟨hk.1, by omega⟩)
          · rw [List.mem_singleton.1 h]
            exact (InS.own (S := fun k => X.heap.size ≤ k) HOw.out (fun k hk => hk)).under HOw.out.at_ (fun k h1 h2 => ⟨fun h => by have := HmB2.out k h; omega, by omega⟩), fun k hk => .inl ((HmW2.out k hk).imp id (fun h => ⟨h, by have := HmB2.out k hk; omega⟩))⟩
        refine hK _ _ (fun h => absurd h (by decide)) ?_
        clear hK K
        try simp only [List.getElem_toArray, List.getElem_cons_zero, List.getElem_cons_succ, Act.put, List.setIfInBounds_toArray, List.set_cons_zero, List.set_cons_succ]
        refine AnyT.ready (rs := [8]) (by kernel_rfl) (by simp) (ReadyT.cons rfl (fun K hK => ?_) ReadyT.nil)
        go_simp
        refine hK _ _ (fun h => absurd h (by decide)) ?_
        clear hK K
        try simp only [List.getElem_toArray, List.getElem_cons_zero, List.getElem_cons_succ, Act.put, List.setIfInBounds_toArray, List.set_cons_zero, List.set_cons_succ]
        refine AnyT.ready (rs := [9]) (by kernel_rfl) (by simp) (ReadyT.cons rfl (fun K hK => ?_) ReadyT.nil)
        go_simp
        refine hK _ _ (fun h => absurd h (by decide)) ?_
        clear hK K
        try simp only [List.getElem_toArray, List.getElem_cons_zero, List.getElem_cons_succ, Act.put, List.setIfInBounds_toArray, List.set_cons_zero, List.set_cons_succ]
        refine AnyT.done (by kernel_rfl) ?_ _
        gi_wp2
        rw [hz2]
        exact ⟨⟨hb0, hb1⟩, hkp, rfl, _, _, _, HW.out⟩
    · have heb : (u.e != 0) = true := by simpa using he
      have HE := Lib.hid he
      clear he
      have d0 : W.cell? ⟨T6, 0, none⟩ = some (.int .i64 u.e) := heap_cell HX6.out rfl
      gi_wp2_with fail
      refine region_round_quiet rfl (by kernel_rfl) rfl (by kernel_rfl) ?_
      repeat (gi_big_quiet_step (fail))
      refine wpQuietIn_nil ?_
      intro _ hw'
      obtain ⟨nq, rfl⟩ := hw'
      gi_wp2
      rw [hz2]
      have hbw : Below W.heap.size W (W.drewN nq) := ⟨rfl, rfl, rfl, Nat.le_refl _, fun _ _ => rfl⟩
      exact ⟨⟨rfl, rfl⟩, KeepS.of_below hbw (fun k _ h => h), rfl, So, preo, A0, .inl ⟨HI.out.j, pre, u, rfl, HI.out.zer, HE.out, HI.out.map⟩, turned_below HTu.out hbw, fun x' hx' S' h => (HAl.out x' hx' S' h).stay (CellsStay.below hbw), HI.out.r1, HI.out.r0, fun y hy => HFr2.out y hy, HmW2.out⟩
  case done =>
    rintro C Si pre W1 W hC hmap hok ⟨So, preo, A0, hi⟩ hT hall hK
    have htu : Turned (OwnB S0 So) A0 W := Turned.then_ hi.tu hT (fun k hk h => by
      have h1 := hok k h.1
      have h2 : ¬ S0 k := fun h0 => h.2 (.inl h0)
      exact ⟨(hi.sub k h.1).resolve_right (by omega), h2⟩)
    have hallo : ∀ x' ∈ preo, ∀ S', AtW S' x' A0 → AtW S' x' W := fun x' hx' S' h => by
      have h1 := hi.all x' hx' S' h
      exact ⟨h1.1.keep (S := fun k => ¬ Si k ∧ k < W1.heap.size) (Turned.weak' hT (fun k _ hk => fun hn => hn.1 hk.1)) (hi.free x' hx'), h1.2.1, h1.2.2⟩
    have hD : preo.map ModelV.m = waysD x.m := by
      unfold waysD
      rw [hi.map, ← hmap]
      have := ways_pre pre [] hi.zer
      rw [List.append_nil, show waysL [] = [] from rfl, List.append_nil] at this
      exact this.symm
    gi_wp2
    refine ⟨by simp, .inl ⟨_, _, rfl, run_takeDeferred hK, ?_⟩⟩
    have hCs : So C ∨ A0.heap.size ≤ C := by rw [hC, hz2]; exact hi.r0
    have hCn : ¬ S0 C := fun h => by have := HS0.out _ h; omega
    have hst := CellsStay.put (.deferred none) hK rfl
    refine ⟨_, by simp [results, Try.f87, go_sem]; rfl, ⟨_, rfl⟩, So, preo, A0, turned_rec htu hCs hCn _, fun x' hx' S' h => (hallo x' hx' S' h).stay hst, .inl ⟨hD, hi.j⟩⟩
  case stop =>
    rintro C c Si pre W1 W hC hmap hok ⟨rfl, So, preo, A0, hi⟩ hT hall hK
    have htu : Turned (OwnB S0 So) A0 W := Turned.then_ hi.tu hT (fun k hk h => by
      have h1 := hok k h.1
      have h2 : ¬ S0 k := fun h0 => h.2 (.inl h0)
      exact ⟨(hi.sub k h.1).resolve_right (by omega), h2⟩)
    have hallo : ∀ x' ∈ preo, ∀ S', AtW S' x' A0 → AtW S' x' W := fun x' hx' S' h => by
      have h1 := hi.all x' hx' S' h
      exact ⟨h1.1.keep (S := fun k => ¬ Si k ∧ k < W1.heap.size) (Turned.weak' hT (fun k _ hk => fun hn => hn.1 hk.1)) (hi.free x' hx'), h1.2.1, h1.2.2⟩
    have hfin : (preo.map ModelV.m = waysD x.m ∧ J So preo A0) ∨ (preo.map ModelV.m <+: waysD x.m ∧ Jx So preo A0) := by
      obtain ⟨t, ht⟩ := hmap
      rcases hi.j with ⟨hj, p, u, rfl, hz, hu, hm⟩ | ⟨hj, hz, hm⟩
      · refine .inl ⟨?_, hj⟩
        unfold waysD
        rw [hm, ← ht, ways_bad hz hu]
      · refine .inr ⟨?_, hj⟩
        unfold waysD
        rw [hm, ← ht, ways_pre _ _ hz]
        exact ⟨_, rfl⟩
    gi_wp2
    refine ⟨by simp, .inl ⟨_, _, rfl, run_takeDeferred hK, ?_⟩⟩
    have hCs : So C ∨ A0.heap.size ≤ C := by rw [hC, hz2]; exact hi.r0
    have hCn : ¬ S0 C := fun h => by have := HS0.out _ h; omega
    have hst := CellsStay.put (.deferred none) hK rfl
    refine ⟨_, by simp [results, Try.f87, go_sem]; rfl, ⟨_, rfl⟩, So, preo, A0, turned_rec htu hCs hCn _, fun x' hx' S' h => (hallo x' hx' S' h).stay hst, hfin⟩
end Go.Proofs.Ytgnlehenbdcgmaa.Md
