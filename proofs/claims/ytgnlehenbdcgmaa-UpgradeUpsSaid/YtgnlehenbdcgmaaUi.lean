/- Upgrade: a model, and what it is one up, and so on: the iterator. -/
import Derived.Test.YtgnlehenbdcgmaaUd
import Derived.Test.YtgnlehenbdcgmaaSs
import Derived.Test.YtgnlehenbdcgmaaSrw
import Derived.Deep.CutBlock
set_option linter.unusedVariables false
set_option linter.unusedSectionVars false
set_option linter.unusedSimpArgs false
namespace Go.Proofs.Ytgnlehenbdcgmaa.Md
open Go.RowKit Go.Shelf

attribute [local go_sem] Oper.semAt_some
/-- What is handed out, plainly. -/
def upsD : Nat → ModelM → Int × Int → List (ModelM × Int × Int)
  | 0, m, f => [(m, f)]
  | n + 1, m, f => (m, f) :: if f.1 = 0 ∧ m.ver < 3 then upsD n (upR m).1 (upR m).2 else []
structure UpE where
  x : ModelV
  e : Int
  ea : Int
def encU (u : UpE) : Array Value := #[.agg #[.int .i64 u.x.ver, .slice u.x.pa u.x.procs.length u.x.pc, .slice u.x.la u.x.links.length u.x.lc, .slice u.x.ea u.x.events.length u.x.ec], .agg #[.int .i64 u.e, .int .i64 u.ea]]
def plU (u : UpE) : ModelM × Int × Int := (u.x.m, u.e, u.ea)
theorem cell_stay {A B : World} (h : CellsStay A B) {p : Addr} {v : Value} (hc : A.cell? p = some v) : B.cell? p = some v := by
  unfold World.cell? at hc ⊢
  split at hc
  · rename_i cs t fr hk
    rw [h.2 _ _ hk rfl]
    exact hc
  · cases hc
theorem RowsAt.stay {α : Type} {enc : α → List Value} {fit : α → Prop} {sz : Nat} {A B : World} {a : Option Addr} {b off len : Nat} {L : List α} (h : RowsAt enc fit sz A.heap.size A a b off len L) (hs : CellsStay A B) : RowsAt enc fit sz B.heap.size B a b off len L :=
  ⟨h.addr, h.length, h.small, h.below.imp id (fun hb => Nat.lt_of_lt_of_le hb hs.1), fun i x hi j u hu => cell_stay hs (h.cell i x hi j u hu), h.fits⟩
theorem ModelAt.stay {A B : World} {x : ModelV} (h : ModelAt A.heap.size A x) (hs : CellsStay A B) : ModelAt B.heap.size B x :=
  ⟨h.procs.stay hs, fun p hp => ⟨(h.inner p hp).vars.stay hs, (h.inner p hp).steps.stay hs⟩, h.links.stay hs, h.events.stay hs⟩
theorem ups_any (x : ModelV) (w : World) : Calls Try.prog 55 #[.agg #[.int .i64 x.ver, .slice x.pa x.procs.length x.pc, .slice x.la x.links.length x.lc, .slice x.ea x.events.length x.ec]] w fun e w' => e = .returned (.func (.func 81) #[] #[.pointer (some ⟨w.heap.size, 0, none⟩)]) ∧ w' = w.alloc (.cells #[.int .i64 x.ver, .slice x.pa x.procs.length x.pc, .slice x.la x.links.length x.lc, .slice x.ea x.events.length x.ec] 26) := by
  go_enter Try.func55, Try.ntmps55
  go_wp2
  go_ret
  exact ⟨rfl, rfl⟩
/-- The iterator's boxes. -/
structure Us (T3 T4 : Nat) (y : ModelV) (e ea : Int) (W : World) : Prop where
  own : W.heap[T3]? = some (.cells #[.int .i64 y.ver, .slice y.pa y.procs.length y.pc, .slice y.la y.links.length y.lc, .slice y.ea y.events.length y.ec] 26 (0, 0))
  flt : W.heap[T4]? = some (.cells #[.int .i64 e, .int .i64 ea] 31 (0, 0))
  at_ : ModelAt W.heap.size W y
/-- A model's rows lie in S. -/
structure InS (S : Nat → Prop) (y : ModelV) : Prop where
  procs : y.procs.length = 0 ∨ S y.pb
  links : y.links.length = 0 ∨ S y.lb
  events : y.events.length = 0 ∨ S y.eb
  inner : ∀ p ∈ y.procs, (p.p.vars.length = 0 ∨ S p.vb) ∧ (p.p.steps.length = 0 ∨ S p.sb)
theorem InS.mono {S S' : Nat → Prop} {y : ModelV} (h : InS S y) (hs : ∀ k, S k → S' k) : InS S' y :=
  ⟨h.procs.imp id (hs _), h.links.imp id (hs _), h.events.imp id (hs _), fun p hp => ⟨(h.inner p hp).1.imp id (hs _), (h.inner p hp).2.imp id (hs _)⟩⟩
theorem or_mono2 {a : Prop} {S S' : Nat → Prop} {b n : Nat} (h : a ∨ S b) (hb : a ∨ b < n) (hs : ∀ k, k < n → S k → S' k) : a ∨ S' b := by
  rcases h with h | h
  · exact .inl h
  · exact hb.imp id (fun hb => hs _ hb h)
theorem InS.under {S S' : Nat → Prop} {W : World} {y : ModelV} (h : InS S y) (ha : ModelAt W.heap.size W y) (hs : ∀ k, k < W.heap.size → S k → S' k) : InS S' y :=
  ⟨or_mono2 h.procs ha.procs.below hs, or_mono2 h.links ha.links.below hs, or_mono2 h.events ha.events.below hs, fun p hp => ⟨or_mono2 (h.inner p hp).1 (ha.inner p hp).vars.below hs, or_mono2 (h.inner p hp).2 (ha.inner p hp).steps.below hs⟩⟩
theorem InS.below {B : Nat} {W : World} {S : Nat → Prop} {y : ModelV} (ha : ModelAt B W y) (hs : ∀ k, k < B → S k) : InS S y :=
  ⟨ha.procs.below.imp id (hs _), ha.links.below.imp id (hs _), ha.events.below.imp id (hs _), fun p hp => ⟨(ha.inner p hp).vars.below.imp id (hs _), (ha.inner p hp).steps.below.imp id (hs _)⟩⟩
theorem OwnR.inS {α : Type} {enc : α → List Value} {fit : α → Prop} {sz : Nat} {t : TypeId} {base : Nat} {W : World} {a : Option Addr} {b : Nat} {L : List α} {S : Nat → Prop} (h : OwnR enc fit sz t base W a b L) (hs : ∀ k, base ≤ k → S k) : L.length = 0 ∨ S b :=
  h.own.elim (fun e => .inl (by rw [e]; rfl)) (fun e => .inr (hs _ e.2.1))
theorem InS.own {base : Nat} {W : World} {S : Nat → Prop} {y : ModelV} (h : OwnM base W y) (hs : ∀ k, base ≤ k → S k) : InS S y :=
  ⟨h.procs.inS hs, h.links.inS hs, h.events.inS hs, fun p hp => ⟨(h.inner p hp).vars.inS hs, (h.inner p hp).steps.inS hs⟩⟩
theorem OwnR.typed {α : Type} {enc : α → List Value} {fit : α → Prop} {sz : Nat} {t : TypeId} {base : Nat} {W : World} {a : Option Addr} {b : Nat} {L : List α} {S : Nat → Prop} (h : OwnR enc fit sz t base W a b L) (ht : listT t = true) (hs : ∀ b cur t, W.heap[b]? = some (.cells cur t (0, 0)) → listT t = true → S b) : L.length = 0 ∨ S b :=
  h.own.elim (fun e => .inl (by rw [e]; rfl)) (fun e => .inr (by obtain ⟨cur, hc, _⟩ := e.2.2; exact hs _ _ _ hc ht))
theorem InS.typed {base : Nat} {W : World} {S : Nat → Prop} {y : ModelV} (h : OwnM base W y) (hs : ∀ b cur t, W.heap[b]? = some (.cells cur t (0, 0)) → listT t = true → S b) : InS S y :=
  ⟨h.procs.typed rfl hs, h.links.typed rfl hs, h.events.typed rfl hs, fun p hp => ⟨(h.inner p hp).vars.typed rfl hs, (h.inner p hp).steps.typed rfl hs⟩⟩
theorem RowsAt.keep {α : Type} {enc : α → List Value} {fit : α → Prop} {sz : Nat} {A B : World} {a : Option Addr} {b off len : Nat} {L : List α} {S : Nat → Prop} (h : RowsAt enc fit sz A.heap.size A a b off len L) (hk : KeepS S A B) (hs : len = 0 ∨ S b) : RowsAt enc fit sz B.heap.size B a b off len L :=
  ⟨h.addr, h.length, h.small, h.below.imp id (fun hb => Nat.lt_of_lt_of_le hb hk.size), fun i x hi j u hu => by
    have h0 := (List.getElem?_eq_some_iff.1 hi).1
    have hl := h.length
    have hne : ¬ len = 0 := by omega
    rw [Turned.cell' hk (p := ⟨b, off + i * sz + j, none⟩) (h.below.resolve_left hne) (fun hn => hn (hs.resolve_left hne))]
    exact h.cell i x hi j u hu, h.fits⟩
theorem ModelAt.keep {A B : World} {y : ModelV} {S : Nat → Prop} (h : ModelAt A.heap.size A y) (hk : KeepS S A B) (hs : InS S y) : ModelAt B.heap.size B y :=
  ⟨h.procs.keep hk hs.procs, fun p hp => ⟨(h.inner p hp).vars.keep hk (hs.inner p hp).1, (h.inner p hp).steps.keep hk (hs.inner p hp).2⟩, h.links.keep hk hs.links, h.events.keep hk hs.events⟩
def AtU (S : Nat → Prop) (u : UpE) (W : World) : Prop := ModelAt W.heap.size W u.x ∧ Sized u.x.m ∧ InS S u.x
theorem AtU.stay {S : Nat → Prop} {u : UpE} {A B : World} (h : AtU S u A) (hs : CellsStay A B) : AtU S u B := ⟨h.1.stay hs, h.2.1, h.2.2⟩
theorem AtU.mono {S S' : Nat → Prop} {u : UpE} {A : World} (h : AtU S u A) (hs : ∀ k, k < A.heap.size → S k → S' k) : AtU S' u A := ⟨h.1, h.2.1, h.2.2.under h.1 hs⟩
theorem upsD_head (n : Nat) (m : ModelM) (f : Int × Int) : ∃ t, upsD n m f = (m, f) :: t := by cases n <;> exact ⟨_, rfl⟩
theorem upsD_stop {n : Nat} {m : ModelM} {f : Int × Int} (h : ¬ (f.1 = 0 ∧ m.ver < 3)) : upsD n m f = [(m, f)] := by
  cases n with
  | zero => rfl
  | succ n => unfold upsD; rw [if_neg h]
theorem upsD_go {n : Nat} {m : ModelM} {f : Int × Int} (h : f.1 = 0 ∧ m.ver < 3) : upsD (n + 1) m f = (m, f) :: upsD n (upR m).1 (upR m).2 := by
  rw [upsD, if_pos h]
theorem sized_zero : Sized zeroM := ⟨by decide, by decide, by decide, fun p hp => by simp [zeroM] at hp⟩
theorem sized_up {m : ModelM} (h : Sized m) : Sized (upR m).1 := by
  unfold upR
  split
  · unfold delR
    split
    · exact ⟨h.procs, by simpa using h.links, h.events, h.inner⟩
    · exact sized_zero
  · split
    · refine ⟨by simpa [wghM] using h.procs, by simpa [wghM] using h.links, h.events, fun p hp => ?_⟩
      obtain ⟨q, hq, rfl⟩ := List.mem_map.1 (show p ∈ m.procs.map wghP from hp)
      exact h.inner q hq
    · exact sized_zero
theorem up_goes {m : ModelM} (hd : ∀ l ∈ m.links, 0 ≤ l.delay ∧ l.delay ≤ 1099511627776) (h0 : (upR m).2.1 = 0) : (∀ l ∈ (upR m).1.links, 0 ≤ l.delay ∧ l.delay ≤ 1099511627776) ∧ (upR m).1.ver = m.ver + 1 := by
  unfold upR at h0 ⊢
  split at h0
  · rename_i h1
    rw [if_pos h1]
    unfold delR at h0 ⊢
    split at h0
    · rename_i h2
      rw [if_pos h2]
      refine ⟨fun l hl => ?_, by rw [h1]; rfl⟩
      obtain ⟨l0, hl0, rfl⟩ := List.mem_map.1 (show l ∈ m.links.map delL from hl)
      obtain ⟨i, hi⟩ := List.getElem?_of_mem hl0
      have := (fErr_zero _ _ _).1 h2 i l0 hi
      have h3 : ¬ 1099511627776 < l0.delay * 1000 := fun h => by rw [if_pos h] at this; cases this
      have := hd l0 hl0
      unfold delL
      dsimp only
      omega
    · simp at h0
  · rename_i h1
    rw [if_neg h1]
    split at h0
    · rename_i h2
      rw [if_pos h2]
      refine ⟨fun l hl => ?_, by rw [h2]; rfl⟩
      obtain ⟨l0, hl0, rfl⟩ := List.mem_map.1 (show l ∈ m.links.map wghL from hl)
      exact hd l0 hl0
    · simp at h0
/-- While the iterator goes on. -/
structure Ul (T3 T4 : Nat) (D : List (ModelM × Int × Int)) (J : (Nat → Prop) → List UpE → World → Prop) (S0 : Nat → Prop) (n : Nat) (y : ModelV) (e ea : Int) (S : Nat → Prop) (pre : List UpE) (A0 wr : World) : Prop where
  own : wr.heap[T3]? = some (.cells #[.int .i64 y.ver, .slice y.pa y.procs.length y.pc, .slice y.la y.links.length y.lc, .slice y.ea y.events.length y.ec] 26 (0, 0))
  flt : wr.heap[T4]? = some (.cells #[.int .i64 e, .int .i64 ea] 31 (0, 0))
  at_ : ModelAt wr.heap.size wr y
  sz : Sized y.m
  j : J S pre A0
  tu : Turned (OwnB S0 S) A0 wr
  t3 : S T3 ∨ A0.heap.size ≤ T3
  t4 : S T4 ∨ A0.heap.size ≤ T4
  ins : InS (fun k => S k ∨ A0.heap.size ≤ k) y
  d : D = pre.map plU ++ upsD n y.m (e, ea)
  ne : InS (fun k => k ≠ T3 ∧ k ≠ T4) y
  ne' : ∀ u ∈ pre, InS (fun k => k ≠ T3 ∧ k ≠ T4) u.x
  kp : Turned (fun k => k = T3 ∨ k = T4) A0 wr
  del : e = 0 → (∀ l ∈ y.links, 0 ≤ l.delay ∧ l.delay ≤ 1099511627776) ∧ 3 ≤ y.ver + n
def msr (T3 T4 : Nat) (W : World) : Nat := if intOf ((W.cell? ⟨T4, 0, none⟩).getD undef) = 0 then (4 - intOf ((W.cell? ⟨T3, 0, none⟩).getD undef)).toNat else 0
set_option maxRecDepth 100000 in
set_option maxHeartbeats 4000000 in
theorem ups1_seq {x : ModelV} {w : World} {Bx : Nat} {S0 : Nat → Prop} (hBx : w.heap[Bx]? = some (.cells #[.int .i64 x.ver, .slice x.pa x.procs.length x.pc, .slice x.la x.links.length x.lc, .slice x.ea x.events.length x.ec] 26 (0, 0))) (hx : ModelAt w.heap.size w x) (hs : Sized x.m) (hS0 : ∀ k, S0 k → k < w.heap.size) (hSx : InS S0 x) (q : Nat) :
    SeqS Fence.wide q Try.prog 81 #[.pointer (some ⟨Bx, 0, none⟩)] encU plU AtU (upsD 3 x.m (mdE x.m)) S0 w := by
  intro l J Jx W hW hY h0
  have HBx := Lib.hid (heap_below hBx hW (heap_lt hBx))
  have HX := Lib.hid (hx.on hW)
  have HY := Lib.hid hY
  have H0 := Lib.hid h0
  have HSz := Lib.hid hs
  have HS0 : Hid (∀ k, S0 k → k < W.heap.size) := Lib.hid (fun k hk => Nat.lt_of_lt_of_le (hS0 k hk) hW.size)
  have HSx := Lib.hid hSx
  clear hY h0 hBx hW hx hs hS0 hSx
  refine callsIn_of_wp Try.func81 rfl trivial ?_ rfl
  simp only [Try.ntmps81, List.size_toArray, List.length_cons, List.length_nil, Nat.reduceAdd, Nat.reduceSub, Array.replicate_succ, Array.replicate_zero, List.push_toArray, List.append_toArray, List.nil_append, List.cons_append]
  refine wpIn_wide.2 ?_
  go_upto_region 0 with fail
  have HC : Hid (∀ X, Below W.heap.size W X → Calls Try.prog 11 #[.agg #[.int .i64 x.ver, .slice x.pa x.procs.length x.pc, .slice x.la x.links.length x.lc, .slice x.ea x.events.length x.ec]] X fun e w' => e = .returned (.agg #[.int .i64 (mdE x.m).1, .int .i64 (mdE x.m).2]) ∧ Below X.heap.size X w') := Lib.hid (fun X hX => check_any (HX.out.on hX))
  obtain ⟨E, hE⟩ : ∃ E, mdE x.m = E := ⟨_, rfl⟩
  rw [hE] at HC HY
  have HEE := Lib.hid hE
  clear hE
  obtain ⟨E1, E2⟩ := E
  dsimp only at HC
  have hlB := heap_lt HBx.out
  go_cut [3, 4] from 5 to 7 (fun s3 s4 wx => ∃ T3 T4 : Nat, s3 = .pointer (some ⟨T3, 0, none⟩) ∧ s4 = .pointer (some ⟨T4, 0, none⟩) ∧ Hid (Below W.heap.size W wx ∧ W.heap.size ≤ T3 ∧ W.heap.size ≤ T4 ∧ ¬ T3 = T4 ∧ wx.heap[T3]? = some (.cells #[.int .i64 x.ver, .slice x.pa x.procs.length x.pc, .slice x.la x.links.length x.lc, .slice x.ea x.events.length x.ec] 26 (0, 0)) ∧ wx.heap[T4]? = some (.cells #[.int .i64 E1, .int .i64 E2] 31 (0, 0)) ∧ ModelAt wx.heap.size wx x))
  case first =>
    have hd : Below W.heap.size W W.drew := (Below.refl _ _).drew
    refine (wpIn_wide (n := 3)).1 ?_
    refine region_T_calm (fun X => Below W.heap.size W X) (fun _ => true) rfl (by kernel_rfl) ?_
    change AnyT _ _ _ _ _ _ _ _ 7 _ _ (World.drew _)
    refine AnyT.take (i := 0) (v := .agg #[.int .i64 x.ver, .slice x.pa x.procs.length x.pc, .slice x.la x.links.length x.lc, .slice x.ea x.events.length x.ec]) rfl rfl (by kernel_rfl) (by kernel_rfl) (by kernel_rfl) (by kernel_rfl) (by kernel_rfl) (fun _ _ _ h => h) (by kernel_rfl) (fun X hX => by have c := heap_below HBx.out hX hlB; have c0 := heap_cell c (i := 0) rfl; have c1 := heap_cell c (i := 1) rfl; have c2 := heap_cell c (i := 2) rfl; have c3 := heap_cell c (i := 3) rfl; simp only [List.getElem_toArray, List.getElem_cons_zero, List.getElem_cons_succ] at c0 c1 c2 c3; go_simp) (fun _ => rfl) hd ?_
    try simp only [List.getElem_toArray, List.getElem_cons_zero, List.getElem_cons_succ, Act.put, List.setIfInBounds_toArray, List.set_cons_zero, List.set_cons_succ]
    refine AnyT.take (i := 1) (v := .agg #[.int .i64 x.ver, .slice x.pa x.procs.length x.pc, .slice x.la x.links.length x.lc, .slice x.ea x.events.length x.ec]) rfl rfl (by kernel_rfl) (by kernel_rfl) (by kernel_rfl) (by kernel_rfl) (by kernel_rfl) (fun _ _ _ h => h) (by kernel_rfl) (fun X hX => by have c := heap_below HBx.out hX hlB; have c0 := heap_cell c (i := 0) rfl; have c1 := heap_cell c (i := 1) rfl; have c2 := heap_cell c (i := 2) rfl; have c3 := heap_cell c (i := 3) rfl; simp only [List.getElem_toArray, List.getElem_cons_zero, List.getElem_cons_succ] at c0 c1 c2 c3; go_simp) (fun _ => rfl) hd ?_
    try simp only [List.getElem_toArray, List.getElem_cons_zero, List.getElem_cons_succ, Act.put, List.setIfInBounds_toArray, List.set_cons_zero, List.set_cons_succ]
    generalize World.drew W = w0 at *
    have hq0 := hd.size
    refine AnyT.ready (rs := [2, 3, 4]) (by kernel_rfl) (by simp) ?_
    refine ReadyT.cons rfl (fun K hK => ?_) ?_
    · go_simp
      refine ⟨trivial, (callsIn_wide.2 (HC.out _ hd)).mono ?_⟩
      rintro e wv1 ⟨rfl, hb2⟩
      have hS3 : Below W.heap.size W wv1 := hd.trans (hb2.mono hd.size)
      have hz4 := hb2.size
      refine hK _ _ (fun _ => hS3) ?_
      clear hK K
      try simp only [List.getElem_toArray, List.getElem_cons_zero, List.getElem_cons_succ, Act.put, List.setIfInBounds_toArray, List.set_cons_zero, List.set_cons_succ]
      refine AnyT.ready (rs := [3, 4]) (by kernel_rfl) (by simp) ?_
      refine ReadyT.cons rfl (fun K hK => ?_) ?_
      · go_simp
        have hS6 : Below W.heap.size W (wv1.alloc (.cells #[.int .i64 0, .slice none 0 0, .slice none 0 0, .slice none 0 0] 26)) := hS3.alloc hS3.size _
        have hc8 := heap_new (w := wv1) (.cells #[.int .i64 0, .slice none 0 0, .slice none 0 0, .slice none 0 0] 26) rfl
        have hz7 := Lib.hid (World.size_alloc wv1 (.cells #[.int .i64 0, .slice none 0 0, .slice none 0 0, .slice none 0 0] 26))
        have hq9 := hS3.size
        refine hK _ _ (fun _ => hS6) ?_
        clear hK K
        generalize wv1.alloc (.cells #[.int .i64 0, .slice none 0 0, .slice none 0 0, .slice none 0 0] 26) = wv5 at *
        try simp only [List.getElem_toArray, List.getElem_cons_zero, List.getElem_cons_succ, Act.put, List.setIfInBounds_toArray, List.set_cons_zero, List.set_cons_succ]
        refine AnyT.ready (rs := [4]) (by kernel_rfl) (by simp) ?_
        refine ReadyT.cons rfl (fun K hK => ?_) ReadyT.nil
        go_simp
        have hS11 : Below W.heap.size W (wv5.alloc (.cells #[.int .i64 0, .int .i64 0] 31)) := hS6.alloc hS6.size _
        have hc13 := heap_new (w := wv5) (.cells #[.int .i64 0, .int .i64 0] 31) rfl
        have hz12 := Lib.hid (World.size_alloc wv5 (.cells #[.int .i64 0, .int .i64 0] 31))
        have hc14 := heap_alloc hc8 (.cells #[.int .i64 0, .int .i64 0] 31)
        have hq15 := hS6.size
        have hq16 := heap_lt hc8
        refine hK _ _ (fun _ => hS11) ?_
        clear hK K
        generalize wv5.alloc (.cells #[.int .i64 0, .int .i64 0] 31) = wv10 at *
        try simp only [List.getElem_toArray, List.getElem_cons_zero, List.getElem_cons_succ, Act.put, List.setIfInBounds_toArray, List.set_cons_zero, List.set_cons_succ]
        refine AnyT.ready (rs := [5]) (by kernel_rfl) (by simp) (ReadyT.cons rfl (fun K hK => ?_) ReadyT.nil)
        have hq19 := hz7.out
        have hq20 := hz12.out
        have hl17 := heap_lt hc14
        have hl18 := heap_lt hc13
        have hne34 : ¬ wv1.heap.size = wv5.heap.size := by omega
        have hne43 : ¬ wv5.heap.size = wv1.heap.size := by omega
        refine stepIn_store_row rfl 26 _ _ rfl wv1.heap.size #[.int .i64 x.ver, .slice x.pa x.procs.length x.pc, .slice x.la x.links.length x.lc, .slice x.ea x.events.length x.ec] rfl rfl 26 _ hc14 (by kernel_rfl) rfl (by kernel_rfl) ?_
        have hg := grown_setRow wv10 wv1.heap.size #[.int .i64 x.ver, .slice x.pa x.procs.length x.pc, .slice x.la x.links.length x.lc, .slice x.ea x.events.length x.ec]
        have h3a : (wv10.setRow wv1.heap.size #[.int .i64 x.ver, .slice x.pa x.procs.length x.pc, .slice x.la x.links.length x.lc, .slice x.ea x.events.length x.ec]).heap[wv1.heap.size]? = some (.cells #[.int .i64 x.ver, .slice x.pa x.procs.length x.pc, .slice x.la x.links.length x.lc, .slice x.ea x.events.length x.ec] 26 (0, 0)) := setRow_heap _ _ _ _ _ _ hc14
        have h4a := heap_kept hc13 hg (fun e => hne43 (by injection e))
        have hSf := hS11.grown hg hS11.size (fun r e => by cases e; omega)
        refine hK _ _ (fun _ => hSf) ?_
        clear hK K hg
        generalize wv10.setRow wv1.heap.size #[.int .i64 x.ver, .slice x.pa x.procs.length x.pc, .slice x.la x.links.length x.lc, .slice x.ea x.events.length x.ec] = wv21 at *
        try simp only [List.getElem_toArray, List.getElem_cons_zero, List.getElem_cons_succ, Act.put, List.setIfInBounds_toArray, List.set_cons_zero, List.set_cons_succ]
        refine AnyT.ready (rs := [6]) (by kernel_rfl) (by simp) (ReadyT.cons rfl (fun K hK => ?_) ReadyT.nil)
        refine stepIn_store_row rfl 31 _ _ rfl wv5.heap.size #[.int .i64 E1, .int .i64 E2] rfl rfl 31 _ h4a (by kernel_rfl) rfl (by kernel_rfl) ?_
        have hg := grown_setRow wv21 wv5.heap.size #[.int .i64 E1, .int .i64 E2]
        have h4b : (wv21.setRow wv5.heap.size #[.int .i64 E1, .int .i64 E2]).heap[wv5.heap.size]? = some (.cells #[.int .i64 E1, .int .i64 E2] 31 (0, 0)) := setRow_heap _ _ _ _ _ _ h4a
        have h3b := heap_kept h3a hg (fun e => hne34 (by injection e))
        have hSg := hSf.grown hg hSf.size (fun r e => by cases e; omega)
        refine hK _ _ (fun _ => hSg) ?_
        clear hK K hg
        generalize wv21.setRow wv5.heap.size #[.int .i64 E1, .int .i64 E2] = wv22 at *
        try simp only [List.getElem_toArray, List.getElem_cons_zero, List.getElem_cons_succ, Act.put, List.setIfInBounds_toArray, List.set_cons_zero, List.set_cons_succ]
        refine AnyT.done (by kernel_rfl) (noPan_normal ?_) _
        go_wp2
        go_meet
        exact ⟨wv1.heap.size, wv5.heap.size, rfl, rfl, Lib.hid ⟨hSg, by omega, by omega, hne34, h3b, h4b, HX.out.on hSg⟩⟩
      refine ReadyT.cons rfl (fun K hK => ?_) ReadyT.nil
      go_simp
      have hS24 : Below W.heap.size W (wv1.alloc (.cells #[.int .i64 0, .int .i64 0] 31)) := hS3.alloc hS3.size _
      have hc26 := heap_new (w := wv1) (.cells #[.int .i64 0, .int .i64 0] 31) rfl
      have hz25 := Lib.hid (World.size_alloc wv1 (.cells #[.int .i64 0, .int .i64 0] 31))
      have hq27 := hS3.size
      refine hK _ _ (fun _ => hS24) ?_
      clear hK K
      generalize wv1.alloc (.cells #[.int .i64 0, .int .i64 0] 31) = wv23 at *
      try simp only [List.getElem_toArray, List.getElem_cons_zero, List.getElem_cons_succ, Act.put, List.setIfInBounds_toArray, List.set_cons_zero, List.set_cons_succ]
      refine AnyT.ready (rs := [3]) (by kernel_rfl) (by simp) ?_
      refine ReadyT.cons rfl (fun K hK => ?_) ReadyT.nil
      go_simp
      have hS29 : Below W.heap.size W (wv23.alloc (.cells #[.int .i64 0, .slice none 0 0, .slice none 0 0, .slice none 0 0] 26)) := hS24.alloc hS24.size _
      have hc31 := heap_new (w := wv23) (.cells #[.int .i64 0, .slice none 0 0, .slice none 0 0, .slice none 0 0] 26) rfl
      have hz30 := Lib.hid (World.size_alloc wv23 (.cells #[.int .i64 0, .slice none 0 0, .slice none 0 0, .slice none 0 0] 26))
      have hc32 := heap_alloc hc26 (.cells #[.int .i64 0, .slice none 0 0, .slice none 0 0, .slice none 0 0] 26)
      have hq33 := hS24.size
      have hq34 := heap_lt hc26
      refine hK _ _ (fun _ => hS29) ?_
      clear hK K
      generalize wv23.alloc (.cells #[.int .i64 0, .slice none 0 0, .slice none 0 0, .slice none 0 0] 26) = wv28 at *
      try simp only [List.getElem_toArray, List.getElem_cons_zero, List.getElem_cons_succ, Act.put, List.setIfInBounds_toArray, List.set_cons_zero, List.set_cons_succ]
      refine AnyT.ready (rs := [5]) (by kernel_rfl) (by simp) (ReadyT.cons rfl (fun K hK => ?_) ReadyT.nil)
      have hq37 := hz25.out
      have hq38 := hz30.out
      have hl35 := heap_lt hc31
      have hl36 := heap_lt hc32
      have hne34 : ¬ wv23.heap.size = wv1.heap.size := by omega
      have hne43 : ¬ wv1.heap.size = wv23.heap.size := by omega
      refine stepIn_store_row rfl 26 _ _ rfl wv23.heap.size #[.int .i64 x.ver, .slice x.pa x.procs.length x.pc, .slice x.la x.links.length x.lc, .slice x.ea x.events.length x.ec] rfl rfl 26 _ hc31 (by kernel_rfl) rfl (by kernel_rfl) ?_
      have hg := grown_setRow wv28 wv23.heap.size #[.int .i64 x.ver, .slice x.pa x.procs.length x.pc, .slice x.la x.links.length x.lc, .slice x.ea x.events.length x.ec]
      have h3a : (wv28.setRow wv23.heap.size #[.int .i64 x.ver, .slice x.pa x.procs.length x.pc, .slice x.la x.links.length x.lc, .slice x.ea x.events.length x.ec]).heap[wv23.heap.size]? = some (.cells #[.int .i64 x.ver, .slice x.pa x.procs.length x.pc, .slice x.la x.links.length x.lc, .slice x.ea x.events.length x.ec] 26 (0, 0)) := setRow_heap _ _ _ _ _ _ hc31
      have h4a := heap_kept hc32 hg (fun e => hne43 (by injection e))
      have hSf := hS29.grown hg hS29.size (fun r e => by cases e; omega)
      refine hK _ _ (fun _ => hSf) ?_
      clear hK K hg
      generalize wv28.setRow wv23.heap.size #[.int .i64 x.ver, .slice x.pa x.procs.length x.pc, .slice x.la x.links.length x.lc, .slice x.ea x.events.length x.ec] = wv39 at *
      try simp only [List.getElem_toArray, List.getElem_cons_zero, List.getElem_cons_succ, Act.put, List.setIfInBounds_toArray, List.set_cons_zero, List.set_cons_succ]
      refine AnyT.ready (rs := [6]) (by kernel_rfl) (by simp) (ReadyT.cons rfl (fun K hK => ?_) ReadyT.nil)
      refine stepIn_store_row rfl 31 _ _ rfl wv1.heap.size #[.int .i64 E1, .int .i64 E2] rfl rfl 31 _ h4a (by kernel_rfl) rfl (by kernel_rfl) ?_
      have hg := grown_setRow wv39 wv1.heap.size #[.int .i64 E1, .int .i64 E2]
      have h4b : (wv39.setRow wv1.heap.size #[.int .i64 E1, .int .i64 E2]).heap[wv1.heap.size]? = some (.cells #[.int .i64 E1, .int .i64 E2] 31 (0, 0)) := setRow_heap _ _ _ _ _ _ h4a
      have h3b := heap_kept h3a hg (fun e => hne34 (by injection e))
      have hSg := hSf.grown hg hSf.size (fun r e => by cases e; omega)
      refine hK _ _ (fun _ => hSg) ?_
      clear hK K hg
      generalize wv39.setRow wv1.heap.size #[.int .i64 E1, .int .i64 E2] = wv40 at *
      try simp only [List.getElem_toArray, List.getElem_cons_zero, List.getElem_cons_succ, Act.put, List.setIfInBounds_toArray, List.set_cons_zero, List.set_cons_succ]
      refine AnyT.done (by kernel_rfl) (noPan_normal ?_) _
      go_wp2
      go_meet
      exact ⟨wv23.heap.size, wv1.heap.size, rfl, rfl, Lib.hid ⟨hSg, by omega, by omega, hne34, h3b, h4b, HX.out.on hSg⟩⟩
    refine ReadyT.cons rfl (fun K hK => ?_) ?_
    · go_simp
      have hS42 : Below W.heap.size W (w0.alloc (.cells #[.int .i64 0, .slice none 0 0, .slice none 0 0, .slice none 0 0] 26)) := hd.alloc hd.size _
      have hc44 := heap_new (w := w0) (.cells #[.int .i64 0, .slice none 0 0, .slice none 0 0, .slice none 0 0] 26) rfl
      have hz43 := Lib.hid (World.size_alloc w0 (.cells #[.int .i64 0, .slice none 0 0, .slice none 0 0, .slice none 0 0] 26))
      have hq45 := hd.size
      refine hK _ _ (fun _ => hS42) ?_
      clear hK K
      generalize w0.alloc (.cells #[.int .i64 0, .slice none 0 0, .slice none 0 0, .slice none 0 0] 26) = wv41 at *
      try simp only [List.getElem_toArray, List.getElem_cons_zero, List.getElem_cons_succ, Act.put, List.setIfInBounds_toArray, List.set_cons_zero, List.set_cons_succ]
      refine AnyT.ready (rs := [2, 4]) (by kernel_rfl) (by simp) ?_
      refine ReadyT.cons rfl (fun K hK => ?_) ?_
      · go_simp
        refine ⟨trivial, (callsIn_wide.2 (HC.out _ hS42)).mono ?_⟩
        rintro e wv46 ⟨rfl, hb47⟩
        have hS48 : Below W.heap.size W wv46 := hS42.trans (hb47.mono hS42.size)
        have hz49 := hb47.size
        have hc50 := heap_below hc44 hb47 (heap_lt hc44)
        refine hK _ _ (fun _ => hS48) ?_
        clear hK K
        try simp only [List.getElem_toArray, List.getElem_cons_zero, List.getElem_cons_succ, Act.put, List.setIfInBounds_toArray, List.set_cons_zero, List.set_cons_succ]
        refine AnyT.ready (rs := [4]) (by kernel_rfl) (by simp) ?_
        refine ReadyT.cons rfl (fun K hK => ?_) ReadyT.nil
        go_simp
        have hS52 : Below W.heap.size W (wv46.alloc (.cells #[.int .i64 0, .int .i64 0] 31)) := hS48.alloc hS48.size _
        have hc54 := heap_new (w := wv46) (.cells #[.int .i64 0, .int .i64 0] 31) rfl
        have hz53 := Lib.hid (World.size_alloc wv46 (.cells #[.int .i64 0, .int .i64 0] 31))
        have hc55 := heap_alloc hc50 (.cells #[.int .i64 0, .int .i64 0] 31)
        have hq56 := hS48.size
        have hq57 := heap_lt hc50
        refine hK _ _ (fun _ => hS52) ?_
        clear hK K
        generalize wv46.alloc (.cells #[.int .i64 0, .int .i64 0] 31) = wv51 at *
        try simp only [List.getElem_toArray, List.getElem_cons_zero, List.getElem_cons_succ, Act.put, List.setIfInBounds_toArray, List.set_cons_zero, List.set_cons_succ]
        refine AnyT.ready (rs := [5]) (by kernel_rfl) (by simp) (ReadyT.cons rfl (fun K hK => ?_) ReadyT.nil)
        have hq60 := hz43.out
        have hq61 := hz53.out
        have hl58 := heap_lt hc55
        have hl59 := heap_lt hc54
        have hne34 : ¬ w0.heap.size = wv46.heap.size := by omega
        have hne43 : ¬ wv46.heap.size = w0.heap.size := by omega
        refine stepIn_store_row rfl 26 _ _ rfl w0.heap.size #[.int .i64 x.ver, .slice x.pa x.procs.length x.pc, .slice x.la x.links.length x.lc, .slice x.ea x.events.length x.ec] rfl rfl 26 _ hc55 (by kernel_rfl) rfl (by kernel_rfl) ?_
        have hg := grown_setRow wv51 w0.heap.size #[.int .i64 x.ver, .slice x.pa x.procs.length x.pc, .slice x.la x.links.length x.lc, .slice x.ea x.events.length x.ec]
        have h3a : (wv51.setRow w0.heap.size #[.int .i64 x.ver, .slice x.pa x.procs.length x.pc, .slice x.la x.links.length x.lc, .slice x.ea x.events.length x.ec]).heap[w0.heap.size]? = some (.cells #[.int .i64 x.ver, .slice x.pa x.procs.length x.pc, .slice x.la x.links.length x.lc, .slice x.ea x.events.length x.ec] 26 (0, 0)) := setRow_heap _ _ _ _ _ _ hc55
        have h4a := heap_kept hc54 hg (fun e => hne43 (by injection e))
        have hSf := hS52.grown hg hS52.size (fun r e => by cases e; omega)
        refine hK _ _ (fun _ => hSf) ?_
        clear hK K hg
        generalize wv51.setRow w0.heap.size #[.int .i64 x.ver, .slice x.pa x.procs.length x.pc, .slice x.la x.links.length x.lc, .slice x.ea x.events.length x.ec] = wv62 at *
        try simp only [List.getElem_toArray, List.getElem_cons_zero, List.getElem_cons_succ, Act.put, List.setIfInBounds_toArray, List.set_cons_zero, List.set_cons_succ]
        refine AnyT.ready (rs := [6]) (by kernel_rfl) (by simp) (ReadyT.cons rfl (fun K hK => ?_) ReadyT.nil)
        refine stepIn_store_row rfl 31 _ _ rfl wv46.heap.size #[.int .i64 E1, .int .i64 E2] rfl rfl 31 _ h4a (by kernel_rfl) rfl (by kernel_rfl) ?_
        have hg := grown_setRow wv62 wv46.heap.size #[.int .i64 E1, .int .i64 E2]
        have h4b : (wv62.setRow wv46.heap.size #[.int .i64 E1, .int .i64 E2]).heap[wv46.heap.size]? = some (.cells #[.int .i64 E1, .int .i64 E2] 31 (0, 0)) := setRow_heap _ _ _ _ _ _ h4a
        have h3b := heap_kept h3a hg (fun e => hne34 (by injection e))
        have hSg := hSf.grown hg hSf.size (fun r e => by cases e; omega)
        refine hK _ _ (fun _ => hSg) ?_
        clear hK K hg
        generalize wv62.setRow wv46.heap.size #[.int .i64 E1, .int .i64 E2] = wv63 at *
        try simp only [List.getElem_toArray, List.getElem_cons_zero, List.getElem_cons_succ, Act.put, List.setIfInBounds_toArray, List.set_cons_zero, List.set_cons_succ]
        refine AnyT.done (by kernel_rfl) (noPan_normal ?_) _
        go_wp2
        go_meet
        exact ⟨w0.heap.size, wv46.heap.size, rfl, rfl, Lib.hid ⟨hSg, by omega, by omega, hne34, h3b, h4b, HX.out.on hSg⟩⟩
      refine ReadyT.cons rfl (fun K hK => ?_) ReadyT.nil
      go_simp
      have hS65 : Below W.heap.size W (wv41.alloc (.cells #[.int .i64 0, .int .i64 0] 31)) := hS42.alloc hS42.size _
      have hc67 := heap_new (w := wv41) (.cells #[.int .i64 0, .int .i64 0] 31) rfl
      have hz66 := Lib.hid (World.size_alloc wv41 (.cells #[.int .i64 0, .int .i64 0] 31))
      have hc68 := heap_alloc hc44 (.cells #[.int .i64 0, .int .i64 0] 31)
      have hq69 := hS42.size
      have hq70 := heap_lt hc44
      refine hK _ _ (fun _ => hS65) ?_
      clear hK K
      generalize wv41.alloc (.cells #[.int .i64 0, .int .i64 0] 31) = wv64 at *
      try simp only [List.getElem_toArray, List.getElem_cons_zero, List.getElem_cons_succ, Act.put, List.setIfInBounds_toArray, List.set_cons_zero, List.set_cons_succ]
      refine AnyT.ready (rs := [2]) (by kernel_rfl) (by simp) ?_
      refine ReadyT.cons rfl (fun K hK => ?_) ReadyT.nil
      go_simp
      refine ⟨trivial, (callsIn_wide.2 (HC.out _ hS65)).mono ?_⟩
      rintro e wv71 ⟨rfl, hb72⟩
      have hS73 : Below W.heap.size W wv71 := hS65.trans (hb72.mono hS65.size)
      have hz74 := hb72.size
      have hc75 := heap_below hc68 hb72 (heap_lt hc68)
      have hc76 := heap_below hc67 hb72 (heap_lt hc67)
      refine hK _ _ (fun _ => hS73) ?_
      clear hK K
      try simp only [List.getElem_toArray, List.getElem_cons_zero, List.getElem_cons_succ, Act.put, List.setIfInBounds_toArray, List.set_cons_zero, List.set_cons_succ]
      refine AnyT.ready (rs := [5]) (by kernel_rfl) (by simp) (ReadyT.cons rfl (fun K hK => ?_) ReadyT.nil)
      have hq79 := hz43.out
      have hq80 := hz66.out
      have hl77 := heap_lt hc75
      have hl78 := heap_lt hc76
      have hne34 : ¬ w0.heap.size = wv41.heap.size := by omega
      have hne43 : ¬ wv41.heap.size = w0.heap.size := by omega
      refine stepIn_store_row rfl 26 _ _ rfl w0.heap.size #[.int .i64 x.ver, .slice x.pa x.procs.length x.pc, .slice x.la x.links.length x.lc, .slice x.ea x.events.length x.ec] rfl rfl 26 _ hc75 (by kernel_rfl) rfl (by kernel_rfl) ?_
      have hg := grown_setRow wv71 w0.heap.size #[.int .i64 x.ver, .slice x.pa x.procs.length x.pc, .slice x.la x.links.length x.lc, .slice x.ea x.events.length x.ec]
      have h3a : (wv71.setRow w0.heap.size #[.int .i64 x.ver, .slice x.pa x.procs.length x.pc, .slice x.la x.links.length x.lc, .slice x.ea x.events.length x.ec]).heap[w0.heap.size]? = some (.cells #[.int .i64 x.ver, .slice x.pa x.procs.length x.pc, .slice x.la x.links.length x.lc, .slice x.ea x.events.length x.ec] 26 (0, 0)) := setRow_heap _ _ _ _ _ _ hc75
      have h4a := heap_kept hc76 hg (fun e => hne43 (by injection e))
      have hSf := hS73.grown hg hS73.size (fun r e => by cases e; omega)
      refine hK _ _ (fun _ => hSf) ?_
      clear hK K hg
      generalize wv71.setRow w0.heap.size #[.int .i64 x.ver, .slice x.pa x.procs.length x.pc, .slice x.la x.links.length x.lc, .slice x.ea x.events.length x.ec] = wv81 at *
      try simp only [List.getElem_toArray, List.getElem_cons_zero, List.getElem_cons_succ, Act.put, List.setIfInBounds_toArray, List.set_cons_zero, List.set_cons_succ]
      refine AnyT.ready (rs := [6]) (by kernel_rfl) (by simp) (ReadyT.cons rfl (fun K hK => ?_) ReadyT.nil)
      refine stepIn_store_row rfl 31 _ _ rfl wv41.heap.size #[.int .i64 E1, .int .i64 E2] rfl rfl 31 _ h4a (by kernel_rfl) rfl (by kernel_rfl) ?_
      have hg := grown_setRow wv81 wv41.heap.size #[.int .i64 E1, .int .i64 E2]
      have h4b : (wv81.setRow wv41.heap.size #[.int .i64 E1, .int .i64 E2]).heap[wv41.heap.size]? = some (.cells #[.int .i64 E1, .int .i64 E2] 31 (0, 0)) := setRow_heap _ _ _ _ _ _ h4a
      have h3b := heap_kept h3a hg (fun e => hne34 (by injection e))
      have hSg := hSf.grown hg hSf.size (fun r e => by cases e; omega)
      refine hK _ _ (fun _ => hSg) ?_
      clear hK K hg
      generalize wv81.setRow wv41.heap.size #[.int .i64 E1, .int .i64 E2] = wv82 at *
      try simp only [List.getElem_toArray, List.getElem_cons_zero, List.getElem_cons_succ, Act.put, List.setIfInBounds_toArray, List.set_cons_zero, List.set_cons_succ]
      refine AnyT.done (by kernel_rfl) (noPan_normal ?_) _
      go_wp2
      go_meet
      exact ⟨w0.heap.size, wv41.heap.size, rfl, rfl, Lib.hid ⟨hSg, by omega, by omega, hne34, h3b, h4b, HX.out.on hSg⟩⟩
    refine ReadyT.cons rfl (fun K hK => ?_) ReadyT.nil
    go_simp
    have hS84 : Below W.heap.size W (w0.alloc (.cells #[.int .i64 0, .int .i64 0] 31)) := hd.alloc hd.size _
    have hc86 := heap_new (w := w0) (.cells #[.int .i64 0, .int .i64 0] 31) rfl
    have hz85 := Lib.hid (World.size_alloc w0 (.cells #[.int .i64 0, .int .i64 0] 31))
    have hq87 := hd.size
    refine hK _ _ (fun _ => hS84) ?_
    clear hK K
    generalize w0.alloc (.cells #[.int .i64 0, .int .i64 0] 31) = wv83 at *
    try simp only [List.getElem_toArray, List.getElem_cons_zero, List.getElem_cons_succ, Act.put, List.setIfInBounds_toArray, List.set_cons_zero, List.set_cons_succ]
    refine AnyT.ready (rs := [2, 3]) (by kernel_rfl) (by simp) ?_
    refine ReadyT.cons rfl (fun K hK => ?_) ?_
    · go_simp
      refine ⟨trivial, (callsIn_wide.2 (HC.out _ hS84)).mono ?_⟩
      rintro e wv88 ⟨rfl, hb89⟩
      have hS90 : Below W.heap.size W wv88 := hS84.trans (hb89.mono hS84.size)
      have hz91 := hb89.size
      have hc92 := heap_below hc86 hb89 (heap_lt hc86)
      refine hK _ _ (fun _ => hS90) ?_
      clear hK K
      try simp only [List.getElem_toArray, List.getElem_cons_zero, List.getElem_cons_succ, Act.put, List.setIfInBounds_toArray, List.set_cons_zero, List.set_cons_succ]
      refine AnyT.ready (rs := [3]) (by kernel_rfl) (by simp) ?_
      refine ReadyT.cons rfl (fun K hK => ?_) ReadyT.nil
      go_simp
      have hS94 : Below W.heap.size W (wv88.alloc (.cells #[.int .i64 0, .slice none 0 0, .slice none 0 0, .slice none 0 0] 26)) := hS90.alloc hS90.size _
      have hc96 := heap_new (w := wv88) (.cells #[.int .i64 0, .slice none 0 0, .slice none 0 0, .slice none 0 0] 26) rfl
      have hz95 := Lib.hid (World.size_alloc wv88 (.cells #[.int .i64 0, .slice none 0 0, .slice none 0 0, .slice none 0 0] 26))
      have hc97 := heap_alloc hc92 (.cells #[.int .i64 0, .slice none 0 0, .slice none 0 0, .slice none 0 0] 26)
      have hq98 := hS90.size
      have hq99 := heap_lt hc92
      refine hK _ _ (fun _ => hS94) ?_
      clear hK K
      generalize wv88.alloc (.cells #[.int .i64 0, .slice none 0 0, .slice none 0 0, .slice none 0 0] 26) = wv93 at *
      try simp only [List.getElem_toArray, List.getElem_cons_zero, List.getElem_cons_succ, Act.put, List.setIfInBounds_toArray, List.set_cons_zero, List.set_cons_succ]
      refine AnyT.ready (rs := [5]) (by kernel_rfl) (by simp) (ReadyT.cons rfl (fun K hK => ?_) ReadyT.nil)
      have hq102 := hz85.out
      have hq103 := hz95.out
      have hl100 := heap_lt hc96
      have hl101 := heap_lt hc97
      have hne34 : ¬ wv88.heap.size = w0.heap.size := by omega
      have hne43 : ¬ w0.heap.size = wv88.heap.size := by omega
      refine stepIn_store_row rfl 26 _ _ rfl wv88.heap.size #[.int .i64 x.ver, .slice x.pa x.procs.length x.pc, .slice x.la x.links.length x.lc, .slice x.ea x.events.length x.ec] rfl rfl 26 _ hc96 (by kernel_rfl) rfl (by kernel_rfl) ?_
      have hg := grown_setRow wv93 wv88.heap.size #[.int .i64 x.ver, .slice x.pa x.procs.length x.pc, .slice x.la x.links.length x.lc, .slice x.ea x.events.length x.ec]
      have h3a : (wv93.setRow wv88.heap.size #[.int .i64 x.ver, .slice x.pa x.procs.length x.pc, .slice x.la x.links.length x.lc, .slice x.ea x.events.length x.ec]).heap[wv88.heap.size]? = some (.cells #[.int .i64 x.ver, .slice x.pa x.procs.length x.pc, .slice x.la x.links.length x.lc, .slice x.ea x.events.length x.ec] 26 (0, 0)) := setRow_heap _ _ _ _ _ _ hc96
      have h4a := heap_kept hc97 hg (fun e => hne43 (by injection e))
      have hSf := hS94.grown hg hS94.size (fun r e => by cases e; omega)
      refine hK _ _ (fun _ => hSf) ?_
      clear hK K hg
      generalize wv93.setRow wv88.heap.size #[.int .i64 x.ver, .slice x.pa x.procs.length x.pc, .slice x.la x.links.length x.lc, .slice x.ea x.events.length x.ec] = wv104 at *
      try simp only [List.getElem_toArray, List.getElem_cons_zero, List.getElem_cons_succ, Act.put, List.setIfInBounds_toArray, List.set_cons_zero, List.set_cons_succ]
      refine AnyT.ready (rs := [6]) (by kernel_rfl) (by simp) (ReadyT.cons rfl (fun K hK => ?_) ReadyT.nil)
      refine stepIn_store_row rfl 31 _ _ rfl w0.heap.size #[.int .i64 E1, .int .i64 E2] rfl rfl 31 _ h4a (by kernel_rfl) rfl (by kernel_rfl) ?_
      have hg := grown_setRow wv104 w0.heap.size #[.int .i64 E1, .int .i64 E2]
      have h4b : (wv104.setRow w0.heap.size #[.int .i64 E1, .int .i64 E2]).heap[w0.heap.size]? = some (.cells #[.int .i64 E1, .int .i64 E2] 31 (0, 0)) := setRow_heap _ _ _ _ _ _ h4a
      have h3b := heap_kept h3a hg (fun e => hne34 (by injection e))
      have hSg := hSf.grown hg hSf.size (fun r e => by cases e; omega)
      refine hK _ _ (fun _ => hSg) ?_
      clear hK K hg
      generalize wv104.setRow w0.heap.size #[.int .i64 E1, .int .i64 E2] = wv105 at *
      try simp only [List.getElem_toArray, List.getElem_cons_zero, List.getElem_cons_succ, Act.put, List.setIfInBounds_toArray, List.set_cons_zero, List.set_cons_succ]
      refine AnyT.done (by kernel_rfl) (noPan_normal ?_) _
      go_wp2
      go_meet
      exact ⟨wv88.heap.size, w0.heap.size, rfl, rfl, Lib.hid ⟨hSg, by omega, by omega, hne34, h3b, h4b, HX.out.on hSg⟩⟩
    refine ReadyT.cons rfl (fun K hK => ?_) ReadyT.nil
    go_simp
    have hS107 : Below W.heap.size W (wv83.alloc (.cells #[.int .i64 0, .slice none 0 0, .slice none 0 0, .slice none 0 0] 26)) := hS84.alloc hS84.size _
    have hc109 := heap_new (w := wv83) (.cells #[.int .i64 0, .slice none 0 0, .slice none 0 0, .slice none 0 0] 26) rfl
    have hz108 := Lib.hid (World.size_alloc wv83 (.cells #[.int .i64 0, .slice none 0 0, .slice none 0 0, .slice none 0 0] 26))
    have hc110 := heap_alloc hc86 (.cells #[.int .i64 0, .slice none 0 0, .slice none 0 0, .slice none 0 0] 26)
    have hq111 := hS84.size
    have hq112 := heap_lt hc86
    refine hK _ _ (fun _ => hS107) ?_
    clear hK K
    generalize wv83.alloc (.cells #[.int .i64 0, .slice none 0 0, .slice none 0 0, .slice none 0 0] 26) = wv106 at *
    try simp only [List.getElem_toArray, List.getElem_cons_zero, List.getElem_cons_succ, Act.put, List.setIfInBounds_toArray, List.set_cons_zero, List.set_cons_succ]
    refine AnyT.ready (rs := [2]) (by kernel_rfl) (by simp) ?_
    refine ReadyT.cons rfl (fun K hK => ?_) ReadyT.nil
    go_simp
    refine ⟨trivial, (callsIn_wide.2 (HC.out _ hS107)).mono ?_⟩
    rintro e wv113 ⟨rfl, hb114⟩
    have hS115 : Below W.heap.size W wv113 := hS107.trans (hb114.mono hS107.size)
    have hz116 := hb114.size
    have hc117 := heap_below hc110 hb114 (heap_lt hc110)
    have hc118 := heap_below hc109 hb114 (heap_lt hc109)
    refine hK _ _ (fun _ => hS115) ?_
    clear hK K
    try simp only [List.getElem_toArray, List.getElem_cons_zero, List.getElem_cons_succ, Act.put, List.setIfInBounds_toArray, List.set_cons_zero, List.set_cons_succ]
    refine AnyT.ready (rs := [5]) (by kernel_rfl) (by simp) (ReadyT.cons rfl (fun K hK => ?_) ReadyT.nil)
    have hq121 := hz85.out
    have hq122 := hz108.out
    have hl119 := heap_lt hc118
    have hl120 := heap_lt hc117
    have hne34 : ¬ wv83.heap.size = w0.heap.size := by omega
    have hne43 : ¬ w0.heap.size = wv83.heap.size := by omega
    refine stepIn_store_row rfl 26 _ _ rfl wv83.heap.size #[.int .i64 x.ver, .slice x.pa x.procs.length x.pc, .slice x.la x.links.length x.lc, .slice x.ea x.events.length x.ec] rfl rfl 26 _ hc118 (by kernel_rfl) rfl (by kernel_rfl) ?_
    have hg := grown_setRow wv113 wv83.heap.size #[.int .i64 x.ver, .slice x.pa x.procs.length x.pc, .slice x.la x.links.length x.lc, .slice x.ea x.events.length x.ec]
    have h3a : (wv113.setRow wv83.heap.size #[.int .i64 x.ver, .slice x.pa x.procs.length x.pc, .slice x.la x.links.length x.lc, .slice x.ea x.events.length x.ec]).heap[wv83.heap.size]? = some (.cells #[.int .i64 x.ver, .slice x.pa x.procs.length x.pc, .slice x.la x.links.length x.lc, .slice x.ea x.events.length x.ec] 26 (0, 0)) := setRow_heap _ _ _ _ _ _ hc118
    have h4a := heap_kept hc117 hg (fun e => hne43 (by injection e))
    have hSf := hS115.grown hg hS115.size (fun r e => by cases e; omega)
    refine hK _ _ (fun _ => hSf) ?_
    clear hK K hg
    generalize wv113.setRow wv83.heap.size #[.int .i64 x.ver, .slice x.pa x.procs.length x.pc, .slice x.la x.links.length x.lc, .slice x.ea x.events.length x.ec] = wv123 at *
    try simp only [List.getElem_toArray, List.getElem_cons_zero, List.getElem_cons_succ, Act.put, List.setIfInBounds_toArray, List.set_cons_zero, List.set_cons_succ]
    refine AnyT.ready (rs := [6]) (by kernel_rfl) (by simp) (ReadyT.cons rfl (fun K hK => ?_) ReadyT.nil)
    refine stepIn_store_row rfl 31 _ _ rfl w0.heap.size #[.int .i64 E1, .int .i64 E2] rfl rfl 31 _ h4a (by kernel_rfl) rfl (by kernel_rfl) ?_
    have hg := grown_setRow wv123 w0.heap.size #[.int .i64 E1, .int .i64 E2]
    have h4b : (wv123.setRow w0.heap.size #[.int .i64 E1, .int .i64 E2]).heap[w0.heap.size]? = some (.cells #[.int .i64 E1, .int .i64 E2] 31 (0, 0)) := setRow_heap _ _ _ _ _ _ h4a
    have h3b := heap_kept h3a hg (fun e => hne34 (by injection e))
    have hSg := hSf.grown hg hSf.size (fun r e => by cases e; omega)
    refine hK _ _ (fun _ => hSg) ?_
    clear hK K hg
    generalize wv123.setRow w0.heap.size #[.int .i64 E1, .int .i64 E2] = wv124 at *
    try simp only [List.getElem_toArray, List.getElem_cons_zero, List.getElem_cons_succ, Act.put, List.setIfInBounds_toArray, List.set_cons_zero, List.set_cons_succ]
    refine AnyT.done (by kernel_rfl) (noPan_normal ?_) _
    go_wp2
    go_meet
    exact ⟨wv83.heap.size, w0.heap.size, rfl, rfl, Lib.hid ⟨hSg, by omega, by omega, hne34, h3b, h4b, HX.out.on hSg⟩⟩
  case rest =>
    obtain ⟨T3, T4, rfl, rfl, HU⟩ := hcut
    have HDe : Hid (∃ D, D = upsD 3 x.m (E1, E2)) := Lib.hid ⟨_, rfl⟩
    obtain ⟨D, hD⟩ := HDe.out
    rw [← hD] at HY
    have HDq : Hid (D = upsD 3 x.m (mdE x.m)) := Lib.hid (by rw [HEE.out]; exact hD)
    have HL0 : Hid (∃ n y e ea S pre A0, Ul T3 T4 D J S0 n y e ea S pre A0 wc) := Lib.hid ⟨3, x, E1, E2, S0, [], W, HU.out.2.2.2.2.1, HU.out.2.2.2.2.2.1, HU.out.2.2.2.2.2.2, HSz.out, H0.out, Turned.of_b HU.out.1, .inr HU.out.2.1, .inr HU.out.2.2.1, HSx.out.mono (fun k hk => .inl hk), hD, HSx.out.mono (fun k hk => by have h1 := HS0.out k hk; have h2 := HU.out.2.1; have h3 := HU.out.2.2.1; omega), fun u hu => (by cases hu), Turned.of_b HU.out.1, fun he => by
      have hR : Right x.m := right_of (by rw [HEE.out]; exact he)
      refine ⟨fun l hl => by have := ln_delays hR l hl; omega, by have := hR.ver.1; show 3 ≤ x.ver + ((3 : Nat) : Int); have h2 : x.m.ver = x.ver := rfl; omega⟩⟩
    have HT : Hid (W.heap.size ≤ T3 ∧ W.heap.size ≤ T4 ∧ ¬ T3 = T4) := Lib.hid ⟨HU.out.2.1, HU.out.2.2.1, HU.out.2.2.2.1⟩
    clear hD HDe HU HC HEE H0 HX HBx hlB HSz HSx
    go_upto_block 0 with fail
    refine (wpIn_wide (n := q)).1 ?_
    gi_wp2_with fail
    gi_loopw [12] (fun s12 wr => Hid (∃ n y e ea S pre A0, Ul T3 T4 D J S0 n y e ea S pre A0 wr)) (fun _ wr => msr T3 T4 wr)
    case atStart => exact HL0
    case round =>
      clear HL0
      have HL := hrel
      obtain ⟨n, y, e, ea, S, pre, A0, hU⟩ := HL.out
      clear hrel
      have HU := Lib.hid hU
      clear hU HL
      have c0 : wr.cell? ⟨T3, 0, none⟩ = some (.int .i64 y.ver) := heap_cell HU.out.own rfl
      have c1 : wr.cell? ⟨T3, 1, none⟩ = some (.slice y.pa y.procs.length y.pc) := heap_cell HU.out.own rfl
      have c2 : wr.cell? ⟨T3, 2, none⟩ = some (.slice y.la y.links.length y.lc) := heap_cell HU.out.own rfl
      have c3 : wr.cell? ⟨T3, 3, none⟩ = some (.slice y.ea y.events.length y.ec) := heap_cell HU.out.own rfl
      have d0 : wr.cell? ⟨T4, 0, none⟩ = some (.int .i64 e) := heap_cell HU.out.flt rfl
      have d1 : wr.cell? ⟨T4, 1, none⟩ = some (.int .i64 ea) := heap_cell HU.out.flt rfl
      obtain ⟨fn, tmps, assign, body, hyl, hRd⟩ := HY.out S pre ⟨y, e, ea⟩ A0 wr HU.out.j HU.out.tu (fun u hu S' h => ⟨h.1.keep (S := fun k => k ≠ T3 ∧ k ≠ T4) (Turned.weak' HU.out.kp (fun k _ hk => fun hn => hk.elim (fun e => hn.1 e) (fun e => hn.2 e))) (HU.out.ne' u hu), h.2.1, h.2.2⟩) (by
        rw [HU.out.d]
        obtain ⟨tl, htl⟩ := upsD_head n y.m (e, ea)
        rw [htl]
        exact ⟨tl, by simp [plU]⟩) ⟨HU.out.at_, HU.out.sz, HU.out.ins⟩
      replace hyl : (Instr.yield l #[.agg #[.int .i64 y.ver, .slice y.pa y.procs.length y.pc, .slice y.la y.links.length y.lc, .slice y.ea y.events.length y.ec], .agg #[.int .i64 e, .int .i64 ea]]).run Try.prog wr = _ := hyl
      have HRd := Lib.hid hRd
      clear hRd
      gi_wp2
      refine ⟨fun h => (by cases h), RoundIn.mono HRd.out ?_⟩
      clear c0 c1 c2 c3 d0 d1 hyl HRd
      rintro ee W9 ⟨hk, ⟨rfl, hj⟩ | ⟨rfl, hj⟩⟩
      · have hown := hk.at_ (HU.out.t3) HU.out.own
        have hflt := hk.at_ (HU.out.t4) HU.out.flt
        have hat := HU.out.at_.keep hk HU.out.ins
        have hlT3 := heap_lt HU.out.own
        have hlT4 := heap_lt HU.out.flt
        have hi9 : InS (fun k => S k ∨ (A0.heap.size ≤ k ∧ k < wr.heap.size)) y := HU.out.ins.under HU.out.at_ (fun k hk1 hk2 => hk2.imp id (fun h => ⟨h, hk1⟩))
        have h93 : S T3 ∨ (A0.heap.size ≤ T3 ∧ T3 < wr.heap.size) := HU.out.t3.imp id (fun h => ⟨h, hlT3⟩)
        have h94 : S T4 ∨ (A0.heap.size ≤ T4 ∧ T4 < wr.heap.size) := HU.out.t4.imp id (fun h => ⟨h, hlT4⟩)
        have HO9 := Lib.hid hown
        have HF9 := Lib.hid hflt
        have HA9 := Lib.hid hat
        have H93 := Lib.hid h93
        have H94 := Lib.hid h94
        have HJ9 := Lib.hid hj
        have HD := Lib.hid HU.out.d
        have HSy := Lib.hid HU.out.sz
        have HDel := Lib.hid HU.out.del
        have HI9 := Lib.hid hi9
        have hS9n : ∀ k, S0 k → k < W.heap.size := HS0.out
        have HOw3 : Hid (OwnB S0 (fun k => S k ∨ (A0.heap.size ≤ k ∧ k < wr.heap.size)) T3) := Lib.hid ⟨h93, fun h => by have := hS9n _ h; have := HT.out.1; omega⟩
        have HOw4 : Hid (OwnB S0 (fun k => S k ∨ (A0.heap.size ≤ k ∧ k < wr.heap.size)) T4) := Lib.hid ⟨h94, fun h => by have := hS9n _ h; have := HT.out.2.1; omega⟩
        have HMs : Hid (e = 0 → msr T3 T4 wr = (4 - y.ver).toNat) := Lib.hid (fun h1 => by
          unfold msr
          rw [heap_cell HU.out.flt (i := 0) rfl, heap_cell HU.out.own (i := 0) rfl]
          simp [intOf, h1])
        have HNe9 : Hid (∀ u ∈ pre ++ [⟨y, e, ea⟩], InS (fun k => k ≠ T3 ∧ k ≠ T4) u.x) := Lib.hid (fun u hu => by
          rcases List.mem_append.1 hu with h | h
          · exact HU.out.ne' u h
          · rw [List.mem_singleton.1 h]
            exact HU.out.ne)
        clear hown hflt hat hlT3 hlT4 hi9 h93 h94 hj hk hS9n HU
        generalize hS9 : (fun k => S k ∨ (A0.heap.size ≤ k ∧ k < wr.heap.size)) = S9 at *
        clear hS9
        have c0 : W9.cell? ⟨T3, 0, none⟩ = some (.int .i64 y.ver) := heap_cell HO9.out rfl
        have c1 : W9.cell? ⟨T3, 1, none⟩ = some (.slice y.pa y.procs.length y.pc) := heap_cell HO9.out rfl
        have c2 : W9.cell? ⟨T3, 2, none⟩ = some (.slice y.la y.links.length y.lc) := heap_cell HO9.out rfl
        have c3 : W9.cell? ⟨T3, 3, none⟩ = some (.slice y.ea y.events.length y.ec) := heap_cell HO9.out rfl
        have d0 : W9.cell? ⟨T4, 0, none⟩ = some (.int .i64 e) := heap_cell HF9.out rfl
        have d1 : W9.cell? ⟨T4, 1, none⟩ = some (.int .i64 ea) := heap_cell HF9.out rfl
        by_cases he : e = 0
        · by_cases hv : y.ver < 3
          · have heb : (e == 0) = true := by simpa using he
            have hdel := HDel.out he
            obtain ⟨n, rfl⟩ : ∃ n', n = n' + 1 := ⟨n - 1, by omega⟩
            have HGo := Lib.hid (upsD_go (n := n) (m := y.m) (f := (e, ea)) ⟨he, hv⟩)
            have HCu := Lib.hid (up_any HA9.out HSy.out hdel.1)
            have HMs2 := Lib.hid (HMs.out he)
            have HUg := Lib.hid (up_goes (m := y.m) hdel.1)
            have HDel2 : Hid (3 ≤ y.ver + ((n : Int) + 1)) := Lib.hid (by have := hdel.2; omega)
            have hvb : decide (y.ver < 3) = true := decide_eq_true hv
            have HVr := Lib.hid hv
            clear he hv hdel HMs HDel
            gi_wp2
            refine ⟨trivial, fun h => (by cases h), (callsIn_wide.2 HCu.out).mono ?_⟩
            clear HCu c0 c1 c2 c3 d0 d1
            rintro ee W10 ⟨x1, rfl, hm, hown, hb⟩
            have hx10 := heap_below HO9.out hb (heap_lt HO9.out)
            have hf10 := heap_below HF9.out hb (heap_lt HF9.out)
            have HX10 := Lib.hid hx10
            have HF10 := Lib.hid hf10
            have HOw := Lib.hid hown
            have HB10 := Lib.hid hb
            have HMm := Lib.hid hm
            have HSu := Lib.hid (sized_up HSy.out)
            have HVm : Hid (y.m.ver = y.ver) := Lib.hid rfl
            obtain ⟨R, hR⟩ : ∃ R, upR y.m = R := ⟨_, rfl⟩
            rw [hR] at HMm HUg HGo HSu ⊢
            clear hm hown hb hR
            obtain ⟨R1, R2, R3⟩ := R
            dsimp only at HMm HUg HGo HSu ⊢
            have c0 : W10.cell? ⟨T3, 0, none⟩ = some (.int .i64 y.ver) := heap_cell hx10 rfl
            have c1 : W10.cell? ⟨T3, 1, none⟩ = some (.slice y.pa y.procs.length y.pc) := heap_cell hx10 rfl
            have c2 : W10.cell? ⟨T3, 2, none⟩ = some (.slice y.la y.links.length y.lc) := heap_cell hx10 rfl
            have c3 : W10.cell? ⟨T3, 3, none⟩ = some (.slice y.ea y.events.length y.ec) := heap_cell hx10 rfl
            have d0 : W10.cell? ⟨T4, 0, none⟩ = some (.int .i64 e) := heap_cell hf10 rfl
            have d1 : W10.cell? ⟨T4, 1, none⟩ = some (.int .i64 ea) := heap_cell hf10 rfl
            have f0 := heap_frozen hx10 0
            have f1 := heap_frozen hx10 1
            have f2 := heap_frozen hx10 2
            have f3 := heap_frozen hx10 3
            have g0 := heap_frozen hf10 0
            have g1 := heap_frozen hf10 1
            have h34 : ¬ T3 = T4 := HT.out.2.2
            have h43 : ¬ T4 = T3 := fun h => h34 h.symm
            clear hx10 hf10
            gi_wp2
            have h4 := set4 HX10.out (.int .i64 x1.ver) (.slice x1.pa x1.procs.length x1.pc) (.slice x1.la x1.links.length x1.lc) (.slice x1.ea x1.events.length x1.ec)
            have hf4 := h4.2.old HF10.out h43
            have h2 := set2 hf4 (.int .i64 R2) (.int .i64 R3)
            have hres := h2.2.old h4.1 h34
            have hflt := h2.1
            have hown2 := (HOw.out.boxT HX10.out rfl h4.2).boxT hf4 rfl h2.2
            have hTT := Turned.trans' (Turned.weak' h4.2 (R' := fun k => k = T3 ∨ k = T4) (fun k _ h => .inl h)) (Turned.weak' h2.2 (R' := fun k => k = T3 ∨ k = T4) (fun k _ h => .inr h))
            have htu := Turned.trans' (Turned.of_b (R := OwnB S0 S9) HB10.out) (Turned.weak' hTT (R' := OwnB S0 S9) (fun k _ h => by rcases h with rfl | rfl; exact HOw3.out; exact HOw4.out))
            have hkp := Turned.trans' (Turned.of_b (R := fun k => k = T3 ∨ k = T4) HB10.out) hTT
            have hnx : InS (fun k => k ≠ T3 ∧ k ≠ T4) x1 := InS.typed HOw.out (fun b cur t hc hl => ⟨fun e => by rw [e, HX10.out] at hc; cases hc; exact absurd hl (by decide), fun e => by rw [e, HF10.out] at hc; cases hc; exact absurd hl (by decide)⟩)
            clear c0 c1 c2 c3 d0 d1 f0 f1 f2 f3 g0 g1 h4 hf4 h2 hTT
            generalize ((((((W10.setCell ⟨T3, 0, none⟩ (.int .i64 x1.ver)).setCell ⟨T3, 1, none⟩ (.slice x1.pa x1.procs.length x1.pc)).setCell ⟨T3, 2, none⟩ (.slice x1.la x1.links.length x1.lc)).setCell ⟨T3, 3, none⟩ (.slice x1.ea x1.events.length x1.ec)).setCell ⟨T4, 0, none⟩ (.int .i64 R2)).setCell ⟨T4, 1, none⟩ (.int .i64 R3)) = W11 at *
            have hx1v : x1.ver = R1.ver := by have := congrArg ModelM.ver HMm.out; exact this
            have hx1l : x1.links = R1.links := by have := congrArg ModelM.links HMm.out; exact this
            refine ⟨Lib.hid ⟨n, x1, R2, R3, S9, pre ++ [⟨y, e, ea⟩], W9, hres, hflt, hown2.at_, by rw [HMm.out]; exact HSu.out, HJ9.out, htu, .inl HOw3.out.1, .inl HOw4.out.1, InS.own hown2 (fun k hk => .inr hk), ?_, hnx, HNe9.out, hkp, fun h0 => ?_⟩, ?_⟩
            · rw [HD.out, HGo.out, List.map_append, List.append_assoc, HMm.out]
              rfl
            · have h1 := HUg.out h0
              have h2 := HDel2.out
              have h3 := HVm.out
              rw [hx1l, hx1v]
              exact ⟨h1.1, by have := h1.2; omega⟩
            · rw [HMs2.out]
              unfold msr
              rw [heap_cell hflt (i := 0) rfl, heap_cell hres (i := 0) rfl]
              have hv := HVr.out
              by_cases h0 : R2 = 0
              · have h1 := (HUg.out h0).2
                have h3 := HVm.out
                simp [intOf, h0]
                omega
              · simp [intOf, h0]
                omega
          · have heb : (e == 0) = true := by simpa using he
            have hvb : decide (y.ver < 3) = false := decide_eq_false hv
            have HSt := Lib.hid (upsD_stop (n := n) (m := y.m) (f := (e, ea)) (fun h => hv h.2))
            clear he hv
            gi_wp2
            refine bodyPost_end (results_none rfl _ _ _) rfl ?_
            exact ⟨⟨_, rfl⟩, S9, pre ++ [⟨y, e, ea⟩], W9, Turned.refl' _ _, fun _ _ _ h => h, .inl ⟨by rw [← HDq.out, HD.out, HSt.out, List.map_append]; rfl, HJ9.out⟩⟩
        · have heb : (e == 0) = false := by simpa using he
          have HSt := Lib.hid (upsD_stop (n := n) (m := y.m) (f := (e, ea)) (fun h => he h.1))
          clear he
          gi_wp2
          refine bodyPost_end (results_none rfl _ _ _) rfl ?_
          exact ⟨⟨_, rfl⟩, S9, pre ++ [⟨y, e, ea⟩], W9, Turned.refl' _ _, fun _ _ _ h => h, .inl ⟨by rw [← HDq.out, HD.out, HSt.out, List.map_append]; rfl, HJ9.out⟩⟩
      · have HJ9 := Lib.hid hj
        clear hk hj
        gi_wp2
        refine bodyPost_end (results_none rfl _ _ _) rfl ?_
        refine ⟨⟨_, rfl⟩, _, pre ++ [⟨y, e, ea⟩], W9, Turned.refl' _ _, fun _ _ _ h => h, .inr ⟨?_, HJ9.out⟩⟩
        obtain ⟨tl, htl⟩ := upsD_head n y.m (e, ea)
        rw [← HDq.out, HU.out.d, htl]
        exact ⟨tl, by simp [plU]⟩
end Go.Proofs.Ytgnlehenbdcgmaa.Md
