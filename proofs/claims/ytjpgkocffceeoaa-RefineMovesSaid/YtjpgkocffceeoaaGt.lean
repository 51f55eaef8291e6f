/- Contract: what hands out all pairs, as a loop asks. -/
import Derived.Test.YtjpgkocffceeoaaGs
set_option linter.unusedVariables false
set_option linter.unusedSectionVars false
namespace Go.Proofs.Ytjpgkocffceeoaa
open Go.RowKit Go.Shelf Rk

attribute [local go_sem] Oper.semAt_some

theorem YieldAt.anyDepth' {F : Fence} (hd : F.depth = none) {m : Nat} (m' : Nat) {P : Program} {l : Nat} {args : Array Value} {W : World} {R : Ending → World → Prop} (h : YieldAt F m P l args W R) : YieldAt F m' P l args W R := YieldAt.anyDepth hd m' h
def mark (D : Nat) : Deferred := { target := .collected D, args := #[] }
theorem leaves_marks {F : Fence} {n : Nat} {P : Program} {fn : Func} {tmps : Array Value} {R : Ending → World → Prop} {B : Nat} {Pp : World → Prop}
    (hst : ∀ (W : World) (l : Nat) (o o' : Obj), Pp W → B ≤ l → W.heap[l]? = some o → o.isCells = false → Pp (W.putObj l o'))
    (hfin : ∀ W, Pp W → ∃ v, (results fn tmps).run P W = .ok v W ∧ R (.returned v) W) :
    ∀ (Ds : List Nat) (W : World), Ds.Nodup → (∀ D ∈ Ds, B ≤ D ∧ W.heap[D]? = some (.deferred (some []))) → Pp W → LeavesInM F n P fn tmps R (Ds.map mark) .returning W
  | [], W, _, _, hP => hfin W hP
  | D :: Ds, W, hn, hD, hP => by
    obtain ⟨h1, h2⟩ := List.nodup_cons.1 hn
    obtain ⟨h3, h4⟩ := hD D (List.mem_cons_self ..)
    refine ⟨by simp, .inl ⟨D, _, rfl, run_takeDeferred h4, ?_⟩⟩
    refine leaves_marks hst hfin Ds _ h2 (fun D' hD' => ?_) (hst _ _ _ _ hP h3 h4 rfl)
    obtain ⟨h5, h6⟩ := hD D' (List.mem_cons_of_mem _ hD')
    exact ⟨h5, (World.putObj_heap_other (by intro e; subst e; exact h1 hD')).trans h6⟩

/-- What is between two, with both. -/
abbrev Edg := Int × Int × Int
def encE (x : Edg) : Array Value := #[.agg #[.int .i64 x.1, .int .i64 x.2.1, .int .i64 x.2.2]]
def tag (a : Nat) (p : Int × Int) : Edg := ((a : Int), p.1, p.2)
def upTo (n : Nat) (F : Nat → Nat → Int) : Nat → List Edg
  | 0 => []
  | k + 1 => upTo n F k ++ (lateD n F k).map (tag k)
def edgesD (n : Nat) (F : Nat → Nat → Int) : List Edg := upTo n F n
theorem upTo_pre (n : Nat) (F : Nat → Nat → Int) (k j : Nat) : upTo n F k <+: upTo n F (k + j) := by
  induction j with
  | zero => exact List.prefix_refl _
  | succ j ih => exact ih.trans (List.prefix_append _ _)
theorem upTo_le {n : Nat} (F : Nat → Nat → Int) {k : Nat} (h : k < n) : (upTo n F k).length + (lateD n F k).length ≤ (edgesD n F).length := by
  obtain ⟨j, hj⟩ : ∃ j, n = (k + 1) + j := ⟨n - (k + 1), by omega⟩
  have := (upTo_pre n F (k + 1) j).length_le
  rw [← hj] at this
  simp only [upTo, List.length_append, List.length_map] at this
  exact this
theorem upTo_part {n : Nat} (F : Nat → Nat → Int) {k : Nat} (h : k < n) {pre : List (Int × Int)} (hp : pre <+: lateD n F k) : upTo n F k ++ pre.map (tag k) <+: edgesD n F := by
  obtain ⟨j, hj⟩ : ∃ j, n = (k + 1) + j := ⟨n - (k + 1), by omega⟩
  have := upTo_pre n F (k + 1) j
  rw [← hj] at this
  refine List.IsPrefix.trans ?_ this
  obtain ⟨s, hs⟩ := hp
  exact ⟨s.map (tag k), by rw [List.append_assoc, ← List.map_append, hs]; rfl⟩

/-- What the iterator keeps of the memory between two rounds. -/
structure KpW (n₀ lo up : Nat) (W X : World) : Prop where
  below : Below n₀ W X
  mid : Mid lo up W X
theorem IsSeq.keptW {n₀ lo up : Nat} {W X : World} {v : Value} {D : List (Int × Int)} (h : IsSeq W v n₀ D) (hv : NewSeq lo v) (hup : ∀ B1 B2 g, v = .func g #[] #[.pointer (some ⟨B1, 0, none⟩), .pointer (some ⟨B2, 0, none⟩)] → B1 < up ∧ B2 < up) (hk : KpW n₀ lo up W X) : IsSeq X v n₀ D := by
  obtain ⟨B1, B2, p, t, s, h1, h2, h3, h4, h5, h6, h7, h8⟩ := h
  obtain ⟨g, B1', B2', e, e1, e2⟩ := hv
  rw [h1] at e
  cases e
  obtain ⟨f1, f2⟩ := hup _ _ _ h1
  exact ⟨B1, B2, p, t, s, h1, (hk.mid.block _ e1 f1).trans h2, (hk.mid.block _ e2 f2).trans h3, h4.low hk.below, h5, h6, h7, Nat.le_trans h8 hk.mid.size⟩

/-- Between two later things. -/
structure InR (n₀ lo up : Nat) (n : Nat) (F : Nat → Nat → Int) (l : Nat) (J : List Edg → World → Prop) (W : World) (k bA : Nat) (Ds : List Nat) (pre : List (Int × Int)) (X : World) : Prop where
  kp : KpW n₀ lo up W X
  box : Boxed X W.heap.size 111 (.func (.yield l) #[] #[])
  boxA : Boxed X bA 3 (.int .i64 (k : Int))
  marks : ∀ D ∈ Ds, X.heap[D]? = some (.deferred (some []))
  j : J (upTo n F k ++ pre.map (tag k)) X
/-- Between two things. -/
structure EvR (n₀ lo up : Nat) (n : Nat) (F : Nat → Nat → Int) (l : Nat) (J : List Edg → World → Prop) (W : World) (k : Nat) (Ds : List Nat) (wr : World) : Prop where
  kp : KpW n₀ lo up W wr
  box : Boxed wr W.heap.size 111 (.func (.yield l) #[] #[])
  nodup : Ds.Nodup
  marks : ∀ D ∈ Ds, W.heap.size ≤ D ∧ wr.heap[D]? = some (.deferred (some []))
  j : J (upTo n F k) wr
theorem seq_up {w : World} {n₀ : Nat} {D : List (Int × Int)} {v : Value} (h : IsSeq w v n₀ D) : ∀ B1 B2 g, v = .func g #[] #[.pointer (some ⟨B1, 0, none⟩), .pointer (some ⟨B2, 0, none⟩)] → B1 < w.heap.size ∧ B2 < w.heap.size := by
  obtain ⟨B1, B2, p, t, s, h1, h2, h3, _⟩ := h
  intro C1 C2 g e
  rw [h1] at e
  cases e
  exact ⟨heap_lt h2, heap_lt h3⟩
theorem YieldAt.inRound {F : Fence} {m : Nat} {P : Program} {l : Nat} {args : Array Value} {W : World} {R : Ending → World → Prop} (l' : Nat) (h : YieldAt F m P l args W R) : YieldAt (F.inRound l') m P l args W R := h
theorem KpW.refl (n₀ lo up : Nat) (W : World) : KpW n₀ lo up W W := ⟨Below.refl _ _, Mid.refl _ _ _⟩
theorem KpW.trans {n₀ lo up : Nat} {A B C : World} (h : KpW n₀ lo up A B) (k : KpW n₀ lo up B C) : KpW n₀ lo up A C := ⟨h.below.trans k.below, h.mid.trans k.mid⟩
theorem KpW.grown {n₀ lo up : Nat} {A B : World} {row : Option Nat} (hg : A.grownBy B row) (h1 : n₀ ≤ A.heap.size) (h2 : up ≤ A.heap.size) (hr : ∀ r, row = some r → n₀ ≤ r ∧ up ≤ r) : KpW n₀ lo up A B :=
  ⟨(Below.refl n₀ A).grown hg h1 (fun k e => (hr k e).1), Mid.grown hg h2 (fun r e => .inr (hr r e).2)⟩
theorem KpW.alloc {n₀ lo up : Nat} (A : World) (o : Obj) (h1 : n₀ ≤ A.heap.size) (h2 : up ≤ A.heap.size) : KpW n₀ lo up A (A.alloc o) := .grown (World.grownBy_alloc A o none) h1 h2 (fun r e => by cases e)
theorem kpW_own {β : Type} {n₀ lo up B : Nat} {W : World} (h1 : n₀ ≤ W.heap.size) (h2 : up ≤ W.heap.size) (hB : W.heap.size ≤ B) : OwnFrom B (fun (_ : β) X => KpW n₀ lo up W X) :=
  fun _ A X row hs hg hr => hs.trans (.grown hg (Nat.le_trans h1 hs.below.size) (Nat.le_trans h2 hs.below.size) (fun r e => by have := (hr r e).1; omega))
theorem ownFrom_mono {β : Type} {B B' : Nat} {I : β → World → Prop} (h : OwnFrom B I) (hB : B ≤ B') : OwnFrom B' I := fun s A X row hs hg hr => h s A X row hs hg (fun r e => ⟨Nat.le_trans hB (hr r e).1, (hr r e).2⟩)
theorem boxed_keptT {E : TypeId} {hi : Nat} {A X : World} {B : Nat} {t : TypeId} {v : Value} (h : Boxed A B t v) (hk : KeepsT E hi A X) (hB : hi ≤ B) (ht : E ≠ t) : Boxed X B t v :=
  hk.same B _ hB h (fun cs fr e => by cases e; exact ht rfl)

theorem inR_own {n₀ lo up n : Nat} {F : Nat → Nat → Int} {l : Nat} {J : List Edg → World → Prop} {W : World} {k bA B : Nat} {Ds : List Nat} (hJ : OwnFrom W.heap.size J) (h1 : n₀ ≤ W.heap.size) (h2 : up ≤ W.heap.size) (hB : W.heap.size ≤ B) (hD : ∀ D ∈ Ds, D < B) : OwnFrom B (InR n₀ lo up n F l J W k bA Ds) :=
  fun s A X row hs hg hr => ⟨hs.kp.trans (.grown hg (Nat.le_trans h1 hs.kp.below.size) (Nat.le_trans h2 hs.kp.below.size) (fun r e => by have := (hr r e).1; omega)), boxed_kept hs.box hg (fun r e => (hr r e).2), boxed_kept hs.boxA hg (fun r e => (hr r e).2),
    fun D hd => (hg.block D (heap_lt (hs.marks D hd)) (fun e => by have := (hr D e.symm).1; have := hD D hd; omega)).trans (hs.marks D hd), hJ _ A X row hs.j hg (fun r e => ⟨Nat.le_trans hB (hr r e).1, (hr r e).2⟩)⟩
theorem outR_own {n : Nat} {F : Nat → Nat → Int} {Jx : List Edg → World → Prop} {W : World} {k B : Nat} {Ds : List Nat} (hJ : OwnFrom W.heap.size Jx) (hB : W.heap.size ≤ B) (hD : ∀ D ∈ Ds, D < B) (c : Code) : OwnFrom B (fun (pre : List (Int × Int)) X => c = .ret ∧ Jx (upTo n F k ++ pre.map (tag k)) X ∧ ∀ D ∈ Ds, X.heap[D]? = some (.deferred (some []))) :=
  fun s A X row hs hg hr => ⟨hs.1, hJ _ A X row hs.2.1 hg (fun r e => ⟨Nat.le_trans hB (hr r e).1, (hr r e).2⟩), fun D hd => (hg.block D (heap_lt (hs.2.2 D hd)) (fun e => by have := (hr D e.symm).1; have := hD D hd; omega)).trans (hs.2.2 D hd)⟩

set_option maxRecDepth 100000 in
set_option maxHeartbeats 2000000 in
theorem IsE.stops {w : World} {v : Value} {n₀ lo n : Nat} {F : Nat → Nat → Int} (h : IsE w v n₀ lo n F) (m : Nat) (E : TypeId) (hE1 : E ≠ 111) (hE2 : E ≠ 3) : ∃ lb, v = .func (.func 67) #[] lb ∧
    SeqN Fence.wide m Try.prog 67 lb encE n₀ lo w.heap.size E (fun ys => ys = edgesD n F) (fun pre => pre <+: edgesD n F) (edgesD n F).length w := by
  obtain ⟨Bl, lb, cs, rfl, hBl, hlb, hsz, hdone, hn, hn0, hl1, hl2⟩ := h
  refine ⟨_, rfl, fun l J Jx W hW hJ hJx hY h0 => ?_⟩
  have hBlt := heap_lt hBl
  have hlbt := heap_lt hlb
  have hzW := hW.size
  have c1 : (W.alloc (.cells #[.func (.yield l) #[] #[]] 111)).cell? ⟨Bl, 0, none⟩ = some (.slice (some ⟨lb, 0, none⟩) n n) := heap_cell (heap_alloc (heap_below hBl hW hBlt) _) rfl
  refine (callsIn_wide (n := m)).2 ((callsIn_wide (n := 5)).1 ?_)
  refine callsIn_of_wp_marks Try.func67 rfl trivial ?_ rfl
  simp only [Try.ntmps67, List.size_toArray, List.length_cons, List.length_nil, Nat.reduceAdd, Nat.reduceSub, Array.replicate_succ, Array.replicate_zero, List.push_toArray, List.append_toArray, List.nil_append, List.cons_append]
  gi_wp2
  refine wpIn_loop_ghost (fun g a wr => ∃ (k : Nat) (u3 u4 u5 u6 u10 u11 u12 u13 u14 u15 u16 u17 u18 u19 u20 u21 u22 u23 u24 : Value) (Ds : List Nat), g = n - k ∧ k ≤ n ∧ Hid (EvR n₀ lo w.heap.size n F l J W k Ds wr) ∧ a = { tmps := #[.func (.yield l) #[] #[], .pointer (some ⟨Bl, 0, none⟩), .pointer (some ⟨W.heap.size, 0, none⟩), u3, u4, u5, u6, .slice (some ⟨lb, 0, none⟩) n n, .int .i64 (n : Int), .int .i64 (k : Int), u10, u11, u12, u13, u14, u15, u16, u17, u18, u19, u20, u21, u22, u23, u24], defers := Ds.map mark }) n ?_ ?_
  · exact ⟨0, _, _, _, _, _, _, _, _, _, _, _, _, _, _, _, _, _, _, _, [], rfl, Nat.zero_le _, Lib.hid ⟨KpW.alloc W _ (by omega) hzW, Boxed.new W _ _, List.nodup_nil, fun D hD => (by cases hD), hJ.alloc _ h0⟩, rfl⟩
  · rintro g a wr ⟨k, u3, u4, u5, u6, u10, u11, u12, u13, u14, u15, u16, u17, u18, u19, u20, u21, u22, u23, u24, Ds, rfl, hk, hR, rfl⟩
    have HR := hR
    clear hR
    have hzr := HR.out.kp.below.size
    have hbl := heap_lt HR.out.box
    by_cases hlt : k < n
    · obtain ⟨u, hu, hq, hnv⟩ := hdone k hlt
      obtain ⟨lq, rfl⟩ := hq.form
      have hki : (k : Int) < (n : Int) := by omega
      have c2 : wr.cell? ⟨lb, k, none⟩ = some (.func (.func 91) #[] lq) := heap_cell ((HR.out.kp.mid.block lb hl2 hlbt).trans (heap_below hlb hW hlbt)) hu
      have hqr : IsSeq wr (.func (.func 91) #[] lq) n₀ (lateD n F k) := (hq.below hW).keptW hnv (seq_up hq) HR.out.kp
      obtain ⟨W2, hW2⟩ : ∃ W2, wr.alloc (.cells #[.int .i64 (k : Int)] 3) = W2 := ⟨_, rfl⟩
      have hz2 : W2.heap.size = wr.heap.size + 1 := by rw [← hW2]; simp
      have hq2 : IsSeq W2 (.func (.func 91) #[] lq) n₀ (lateD n F k) := by rw [← hW2]; exact hqr.below ((Below.refl _ _).alloc (Nat.le_refl _) _)
      have bA : Boxed W2 wr.heap.size 3 (.int .i64 (k : Int)) := by rw [← hW2]; exact Boxed.new wr _ _
      have bY : Boxed W2 W.heap.size 111 (.func (.yield l) #[] #[]) := by rw [← hW2]; exact HR.out.box.alloc _
      have hk2 : KpW n₀ lo w.heap.size W W2 := by rw [← hW2]; exact HR.out.kp.trans (KpW.alloc wr _ (by omega) (by omega))
      have hj2 : J (upTo n F k) W2 := by rw [← hW2]; exact hJ.alloc _ HR.out.j
      have hm2 : ∀ D ∈ Ds, W.heap.size ≤ D ∧ W2.heap[D]? = some (.deferred (some [])) := fun D hD => ⟨(HR.out.marks D hD).1, by rw [← hW2]; exact heap_alloc (HR.out.marks D hD).2 _⟩
      have hDs : ∀ D ∈ Ds, D < W2.heap.size := fun D hD => heap_lt (hm2 D hD).2
      obtain ⟨lq', e1, hst⟩ := hq2.stops 4
      cases e1
      have hL := upTo_le F hlt
      gi_wp2
      refine wpIn_rangeFunc_ownG rfl (by omega) (gf := 91) (lb := lq) rfl trivial (enters_of Try.func91 (by kernel_rfl) rfl)
        hst belowK_t (belowK_b (by omega)) (Below.refl _ _) (fun _ => rfl)
        (InR n₀ lo w.heap.size n F l J W k wr.heap.size Ds)
        (fun c pre X => c = .ret ∧ Jx (upTo n F k ++ pre.map (tag k)) X ∧ ∀ D ∈ Ds, X.heap[D]? = some (.deferred (some [])))
        (inR_own hJ (by omega) hzW (by omega) hDs) (fun c => outR_own hJx (by omega) hDs c)
        ⟨hk2, bY, bA, fun D hD => (hm2 D hD).2, by simpa using hj2⟩
        (fun x => { tmps := #[.func (.yield l) #[] #[], .pointer (some ⟨Bl, 0, none⟩), .pointer (some ⟨W.heap.size, 0, none⟩), .pointer (some ⟨wr.heap.size, 0, none⟩), .func (.func 91) #[] lq, .int .i64 x.1, .int .i64 x.2, .slice (some ⟨lb, 0, none⟩) n n, .int .i64 (n : Int), .int .i64 (k : Int), .bool true, .int .i64 (k : Int), .pointer (some ⟨lb, k, none⟩), .func (.func 91) #[] lq, .func (.func 91) #[] lq, .int .i64 x.1, .int .i64 x.2, u17, u18, u19, u20, u21, u22, u23, u24], defers := [] }) ?assign ?body ?done ?stop
      case assign =>
        intro l' x X K hK
        unfold encP
        gi_wp2
        exact hK
      case body =>
        rintro l' pre x X hi hlx
        obtain ⟨fn, tmps, assign, body, hy, hRd⟩ := YieldAt.inRound l' (YieldAt.anyDepth rfl 2 (hY (upTo n F k ++ pre.map (tag k)) (tag k x) X hi.j (by rw [List.length_append, List.length_map]; omega)))
        dsimp only [encE, tag] at hy
        have cy := hi.box.cell
        have ca := hi.boxA.cell
        have HI := Lib.hid hi
        clear hi
        gi_wp2
        refine hRd.mono ?_
        rintro e X' ⟨⟨k1, k2, k3⟩, h4⟩
        have hm' : ∀ D ∈ Ds, X'.heap[D]? = some (.deferred (some [])) := fun D hD => k3.same D _ (HR.out.marks D hD).1 (HI.out.marks D hD) (fun cs fr e => by cases e)
        have KP := Lib.hid (HI.out.kp.trans ⟨k1, k2⟩)
        have BX := Lib.hid (boxed_keptT HI.out.box k3 (Nat.le_refl _) hE1)
        have BA := Lib.hid (boxed_keptT HI.out.boxA k3 (by omega) hE2)
        have KF := Lib.hid (k3.from (b := W2.heap.size) (by omega))
        have HM := Lib.hid hm'
        have K1 := Lib.hid k1
        rw [show upTo n F k ++ List.map (tag k) pre ++ [tag k x] = upTo n F k ++ List.map (tag k) (pre ++ [x]) by simp] at h4
        clear k1 k2 k3 hm' HI cy ca
        rcases h4 with ⟨rfl, hj⟩ | ⟨rfl, hj⟩
        · have HJ' := Lib.hid hj
          clear hj
          gi_wp2
          exact ⟨KF.out, K1.out, KP.out, BX.out, BA.out, HM.out, HJ'.out⟩
        · have HJ' := Lib.hid hj
          clear hj
          gi_wp2
          exact ⟨KF.out, rfl, HJ'.out, HM.out⟩
      case done =>
        rintro D ys X hD rfl hi hK
        have HI := Lib.hid hi
        have HK := Lib.hid hK
        clear hi hK
        gi_wp2
        refine ⟨n - (k + 1), by omega, k + 1, _, _, _, _, _, _, _, _, _, _, _, _, _, _, _, _, _, _, _, D :: Ds, rfl, by omega, Lib.hid ⟨HI.out.kp, HI.out.box, List.nodup_cons.2 ⟨fun h => by have := hDs D h; omega, HR.out.nodup⟩, fun D' hD' => ?_, HI.out.j⟩, rfl⟩
        rcases List.mem_cons.1 hD' with rfl | hD'
        · exact ⟨by omega, HK.out⟩
        · exact ⟨(HR.out.marks D' hD').1, HI.out.marks D' hD'⟩
      case stop =>
        rintro D c pre X hD hpre ⟨rfl, hjx, hmk⟩ hK
        have HX := Lib.hid hjx
        have HM := Lib.hid hmk
        have HK := Lib.hid hK
        clear hjx hmk hK
        gi_wp2
        refine leaves_marks (B := W.heap.size) (Pp := fun X => Jx (upTo n F k ++ pre.map (tag k)) X) (fun A l o o' hP hl ho hc => hJx.putObj o' hP hl ho hc) (fun X hX => ⟨_, by simp [results, Try.f67, go_sem]; rfl, ⟨_, rfl⟩, .inr ⟨_, upTo_part F hlt hpre, hX⟩⟩) (D :: Ds) X (List.nodup_cons.2 ⟨fun h => by have := hDs D h; omega, HR.out.nodup⟩) (fun D' hD' => ?_) HX.out
        rcases List.mem_cons.1 hD' with rfl | hD'
        · exact ⟨by omega, HK.out⟩
        · exact ⟨(HR.out.marks D' hD').1, HM.out D' hD'⟩
    · obtain rfl : k = n := by omega
      gi_wp2
      refine leaves_marks (B := W.heap.size) (Pp := fun X => J (upTo k F k) X) (fun A l o o' hP hl ho hc => hJ.putObj o' hP hl ho hc) (fun X hX => ⟨_, by simp [results, Try.f67, go_sem]; rfl, ⟨_, rfl⟩, .inl ⟨_, rfl, hX⟩⟩) Ds wr HR.out.nodup HR.out.marks HR.out.j
end Go.Proofs.Ytjpgkocffceeoaa
