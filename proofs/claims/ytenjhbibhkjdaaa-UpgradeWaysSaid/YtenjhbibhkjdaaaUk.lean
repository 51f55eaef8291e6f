/- Upgrade: all ways up, as an iterator. -/
import Derived.Test.YtenjhbibhkjdaaaUj
import Derived.Test.YtenjhbibhkjdaaaRt
set_option linter.unusedVariables false
set_option linter.unusedSectionVars false
set_option linter.unusedSimpArgs false
namespace Go.Proofs.Ytenjhbibhkjdaaa.Md
open Go.RowKit Go.Shelf

attribute [local go_sem] Oper.semAt_some
theorem wide_fn (f : FuncId) : Fence.wide.fn f = True := rfl
attribute [local go_sem, local simp] wide_fn
theorem RoundIn.anyDepth' {F : Fence} (hd : F.depth = none) {m m' : Nat} {P : Program} {l : Nat} {f : FuncId} {tmps : Array Value} {assign body : Code} {w : World} {R : Ending → World → Prop}
    (h : RoundIn F m P l f tmps assign body w R) : RoundIn F m' P l f tmps assign body w R := ⟨h.1, fun c cs _ => h.2 c cs (fun d h => by rw [hd] at h; cases h)⟩
/-- The models without a fault, plainly. -/
def waysL : List (ModelM × Int × Int) → List ModelM
  | [] => []
  | (m, e, _) :: r => if e = 0 then m :: waysL r else []
def waysD (m : ModelM) : List ModelM := waysL (upsD 3 m (mdE m))
theorem ways_pre : ∀ (p : List UpE) (t : List (ModelM × Int × Int)), (∀ v ∈ p, v.e = 0) → waysL (p.map plU ++ t) = p.map (fun v => v.x.m) ++ waysL t
  | [], t, h => rfl
  | v :: p, t, h => by
    have h1 := h v (by simp)
    have := ways_pre p t (fun y hy => h y (by simp; exact .inr hy))
    simp only [List.map_cons, List.cons_append, waysL, plU, h1, if_true]
    rw [← this]
theorem ways_bad {p : List UpE} {u : UpE} {t : List (ModelM × Int × Int)} (h : ∀ v ∈ p, v.e = 0) (hu : u.e ≠ 0) : waysL ((p ++ [u]).map plU ++ t) = p.map (fun v => v.x.m) := by
  rw [List.map_append, List.append_assoc, ways_pre p _ h]
  simp [waysL, plU, hu]
def encW (y : ModelV) : Array Value := #[.agg #[.int .i64 y.ver, .slice y.pa y.procs.length y.pc, .slice y.la y.links.length y.lc, .slice y.ea y.events.length y.ec]]
def AtW (S : Nat → Prop) (y : ModelV) (W : World) : Prop := ModelAt W.heap.size W y ∧ Sized y.m ∧ InS S y
theorem AtW.stay {S : Nat → Prop} {u : ModelV} {A B : World} (h : AtW S u A) (hs : CellsStay A B) : AtW S u B := ⟨h.1.stay hs, h.2.1, h.2.2⟩
theorem AtW.mono {S S' : Nat → Prop} {u : ModelV} {A : World} (h : AtW S u A) (hs : ∀ k, k < A.heap.size → S k → S' k) : AtW S' u A := ⟨h.1, h.2.1, h.2.2.under h.1 hs⟩
theorem Turned.then_ {R R' : Nat → Prop} {A B C : World} (h : Turned R A B) (k : Turned R' B C) (hR : ∀ i, i < A.heap.size → R' i → R i) : Turned R A C :=
  ⟨k.os.trans h.os, k.tape.trans h.tape, k.output.trans h.output, Nat.le_trans h.size k.size, fun c hc hn => (k.block c (Nat.lt_of_lt_of_le hc h.size) (fun e => hn (hR c hc e))).trans (h.block c hc hn)⟩
/-- Between two rounds. -/
structure Iw (J : (Nat → Prop) → List ModelV → World → Prop) (S0 : Nat → Prop) (l Z b : Nat) (So : Nat → Prop) (preo : List ModelV) (A0 : World) (Si : Nat → Prop) (pre : List UpE) (W : World) : Prop where
  j : J So preo A0
  tu : Turned (OwnB S0 So) A0 W
  all : ∀ x' ∈ preo, ∀ S', AtW S' x' A0 → AtW S' x' W
  bx : W.heap[Z]? = some (.cells #[.func (.yield l) #[] #[]] 28 (0, 0))
  bz : So Z ∨ A0.heap.size ≤ Z
  s0 : ∀ k, S0 k → So k
  sub : ∀ k, Si k → So k ∨ A0.heap.size ≤ k
  r0 : So b ∨ A0.heap.size ≤ b
  r1 : So (b + 1) ∨ A0.heap.size ≤ b + 1
  map : preo.map ModelV.m = pre.map (fun v => v.x.m)
  zer : ∀ v ∈ pre, v.e = 0
  free : ∀ y ∈ preo, InS (fun k => ¬ Si k ∧ k < W.heap.size) y
/-- When no more is asked, or a fault was met. -/
structure Ix (J Jx : (Nat → Prop) → List ModelV → World → Prop) (S0 : Nat → Prop) (b : Nat) (So : Nat → Prop) (preo : List ModelV) (A0 : World) (Si : Nat → Prop) (pre : List UpE) (W : World) : Prop where
  j : (J So preo A0 ∧ ∃ p u, pre = p ++ [u] ∧ (∀ v ∈ p, v.e = 0) ∧ u.e ≠ 0 ∧ preo.map ModelV.m = p.map (fun v => v.x.m)) ∨ (Jx So preo A0 ∧ (∀ v ∈ pre, v.e = 0) ∧ preo.map ModelV.m = pre.map (fun v => v.x.m))
  tu : Turned (OwnB S0 So) A0 W
  all : ∀ x' ∈ preo, ∀ S', AtW S' x' A0 → AtW S' x' W
  r1 : So (b + 1) ∨ A0.heap.size ≤ b + 1
  r0 : So b ∨ A0.heap.size ≤ b
  free : ∀ y ∈ preo, InS (fun k => ¬ Si k ∧ k < W.heap.size) y
  sub : ∀ k, Si k → So k ∨ A0.heap.size ≤ k
theorem turned_rec {S0 So : Nat → Prop} {A0 W : World} {r : Nat} (h : Turned (OwnB S0 So) A0 W) (hr : So r ∨ A0.heap.size ≤ r) (hn : ¬ S0 r) (o : Obj) : Turned (OwnB S0 So) A0 (W.putObj r o) :=
  Turned.then_ h (R' := fun k => k = r) ⟨rfl, rfl, rfl, by simp, fun k hk hn => World.putObj_heap_other hn⟩ (fun i hi e => by
    rw [e] at hi ⊢
    exact ⟨hr.resolve_right (by omega), hn⟩)
theorem Iw.put {J : (Nat → Prop) → List ModelV → World → Prop} {S0 : Nat → Prop} {l Z b : Nat} {So : Nat → Prop} {preo : List ModelV} {A0 : World} {Si : Nat → Prop} {pre : List UpE} {W : World} (h : Iw J S0 l Z b So preo A0 Si pre W) (hn : ¬ S0 (b + 1)) {o : Obj} (o' : Obj) (ho : W.heap[b + 1]? = some o) (hc : o.isCells = false) : Iw J S0 l Z b So preo A0 Si pre (W.putObj (b + 1) o') := by
  have hs := CellsStay.put o' ho hc
  exact ⟨h.j, turned_rec h.tu h.r1 hn o', fun x' hx' S' ha => (h.all x' hx' S' ha).stay hs, hs.2 _ _ h.bx rfl, h.bz, h.s0, h.sub, h.r0, h.r1, h.map, h.zer, fun y hy => (h.free y hy).mono (fun k hk => ⟨hk.1, Nat.lt_of_lt_of_le hk.2 hs.1⟩)⟩
theorem Ix.put {J Jx : (Nat → Prop) → List ModelV → World → Prop} {S0 : Nat → Prop} {b : Nat} {So : Nat → Prop} {preo : List ModelV} {A0 : World} {Si : Nat → Prop} {pre : List UpE} {W : World} (h : Ix J Jx S0 b So preo A0 Si pre W) (hn : ¬ S0 (b + 1)) {o : Obj} (o' : Obj) (ho : W.heap[b + 1]? = some o) (hc : o.isCells = false) : Ix J Jx S0 b So preo A0 Si pre (W.putObj (b + 1) o') := by
  have hs := CellsStay.put o' ho hc
  exact ⟨h.j, turned_rec h.tu h.r1 hn o', fun x' hx' S' ha => (h.all x' hx' S' ha).stay hs, h.r1, h.r0, fun y hy => (h.free y hy).mono (fun k hk => ⟨hk.1, Nat.lt_of_lt_of_le hk.2 hs.1⟩), h.sub⟩
set_option maxRecDepth 100000 in
set_option maxHeartbeats 4000000 in
theorem ways1_seq {x : ModelV} {w : World} {Bx : Nat} {S0 : Nat → Prop} (hBx : w.heap[Bx]? = some (.cells #[.int .i64 x.ver, .slice x.pa x.procs.length x.pc, .slice x.la x.links.length x.lc, .slice x.ea x.events.length x.ec] 26 (0, 0))) (hx : ModelAt w.heap.size w x) (hs : Sized x.m) (hS0 : ∀ k, S0 k → k < w.heap.size) (hSx : InS S0 x) (q : Nat) (hq : 1 ≤ q) :
    SeqS Fence.wide q Try.prog 90 #[.pointer (some ⟨Bx, 0, none⟩)] encW ModelV.m AtW (waysD x.m) S0 w := by
  intro l J Jx W hW hY h0
  have hbx := heap_below hBx hW (heap_lt hBx)
  have hxW := hx.on hW
  have hS0W : ∀ k, S0 k → k < W.heap.size := fun k hk => Nat.lt_of_lt_of_le (hS0 k hk) hW.size
  have hz2 : ((W.alloc (.cells #[.func (.yield l) #[] #[]] 28)).alloc (.cells #[.int .i64 x.ver, .slice x.pa x.procs.length x.pc, .slice x.la x.links.length x.lc, .slice x.ea x.events.length x.ec] 26)).heap.size = W.heap.size + 2 := by simp
  have hb2 : Below W.heap.size W ((W.alloc (.cells #[.func (.yield l) #[] #[]] 28)).alloc (.cells #[.int .i64 x.ver, .slice x.pa x.procs.length x.pc, .slice x.la x.links.length x.lc, .slice x.ea x.events.length x.ec] 26)) := (below_one W _).alloc (by simp) _
  have hcl : ((W.alloc (.cells #[.func (.yield l) #[] #[]] 28)).alloc (.cells #[.int .i64 x.ver, .slice x.pa x.procs.length x.pc, .slice x.la x.links.length x.lc, .slice x.ea x.events.length x.ec] 26)).heap[W.heap.size + 1]? = some (.cells #[.int .i64 x.ver, .slice x.pa x.procs.length x.pc, .slice x.la x.links.length x.lc, .slice x.ea x.events.length x.ec] 26 (0, 0)) := heap_new _ (by simp)
  have hyb : ((W.alloc (.cells #[.func (.yield l) #[] #[]] 28)).alloc (.cells #[.int .i64 x.ver, .slice x.pa x.procs.length x.pc, .slice x.la x.links.length x.lc, .slice x.ea x.events.length x.ec] 26)).heap[W.heap.size]? = some (.cells #[.func (.yield l) #[] #[]] 28 (0, 0)) := heap_alloc (heap_new _ rfl) _
  have HSQ := Lib.hid (ups1_seq (S0 := (fun k => S0 k ∨ k = W.heap.size + 1)) hcl (hxW.on hb2) hs (fun k hk => by rw [hz2]; rcases hk with h | h; have := hS0W k h; omega; omega) (hSx.mono (fun k hk => .inl hk)) (q - 1))
  have HI0 : Hid (∀ r : Loop, ∃ So preo A0, Iw J S0 l W.heap.size (W.heap.size + 2) So preo A0 (fun k => S0 k ∨ k = W.heap.size + 1) [] ((((W.alloc (.cells #[.func (.yield l) #[] #[]] 28)).alloc (.cells #[.int .i64 x.ver, .slice x.pa x.procs.length x.pc, .slice x.la x.links.length x.lc, .slice x.ea x.events.length x.ec] 26)).alloc (.deferred (some []))).alloc (.loop r))) := Lib.hid (fun r => ⟨S0, [], W, h0, Turned.of_b ((hb2.alloc (by simp; omega) _).alloc (by simp; omega) _), fun x' hx' => (by cases hx'), heap_alloc (heap_alloc hyb _) _, .inr (Nat.le_refl _), fun k hk => hk, fun k hk => hk.imp id (fun h => by omega), .inr (by omega), .inr (by omega), rfl, fun v hv => (by cases hv), fun v hv => (by cases hv)⟩)
  have HBx := Lib.hid hbx
  have HY := Lib.hid hY
  have HS0 := Lib.hid hS0W
  clear hY h0 hBx hW hx hs hS0 hSx hbx hxW hS0W hb2 hcl hyb
  have c0 : W.cell? ⟨Bx, 0, none⟩ = some (.int .i64 x.ver) := heap_cell HBx.out rfl
  have c1 : W.cell? ⟨Bx, 1, none⟩ = some (.slice x.pa x.procs.length x.pc) := heap_cell HBx.out rfl
  have c2 : W.cell? ⟨Bx, 2, none⟩ = some (.slice x.la x.links.length x.lc) := heap_cell HBx.out rfl
  have c3 : W.cell? ⟨Bx, 3, none⟩ = some (.slice x.ea x.events.length x.ec) := heap_cell HBx.out rfl
  have hlB : Bx < W.heap.size := heap_lt HBx.out
  have hnB : ¬ Bx = W.heap.size := by omega
  refine callsIn_of_wp_marks Try.func90 rfl trivial ?_ rfl
  simp only [Try.ntmps90, List.size_toArray, List.length_cons, List.length_nil, Nat.reduceAdd, Nat.reduceSub, Array.replicate_succ, Array.replicate_zero, List.push_toArray, List.append_toArray, List.nil_append, List.cons_append]
  refine wpIn_wide.2 ?_
  go_wp2_with fail
  refine (ups_any x _).mono ?_
  rintro e w5 ⟨rfl, rfl⟩
  go_wp2_with fail
  generalize ((W.alloc (.cells #[.func (.yield l) #[] #[]] 28)).alloc (.cells #[.int .i64 x.ver, .slice x.pa x.procs.length x.pc, .slice x.la x.links.length x.lc, .slice x.ea x.events.length x.ec] 26)) = W0 at *
  have hzW := HBx.out
  clear c0 c1 c2 c3 hnB hlB hzW
  obtain ⟨Z, hZ⟩ : ∃ Z, W.heap.size = Z := ⟨_, rfl⟩
  rw [hZ] at HSQ hz2 HI0 HS0 ⊢
  clear hZ HBx
  refine (wpIn_wide (n := q)).1 ?_
  refine wpIn_rangeFunc_seqS rfl hq (gf := 84) (lb := #[.pointer (some ⟨Z + 1, 0, none⟩)]) rfl trivial (enters_of Try.func84 (by kernel_rfl) rfl) HSQ.out (fun k hk => by rw [hz2]; rcases hk with h | h; have := HS0.out k h; omega; omega) (fun S u X Y h hc => h.stay hc) (fun S S' u X h hs => h.mono hs) (Below.refl _ _) (fun _ => rfl)
    (fun Si pre W => ∃ So preo A0, Iw J S0 l Z (Z + 2) So preo A0 Si pre W) (fun c Si pre W => c = .ret ∧ ∃ So preo A0, Ix J Jx S0 (Z + 2) So preo A0 Si pre W)
    (fun Si pre X o o' hs ho hc => by
      obtain ⟨So, preo, A0, h⟩ := hs
      rw [hz2] at ho ⊢
      exact ⟨So, preo, A0, h.put (fun h => by have := HS0.out _ h; omega) o' ho hc⟩)
    (fun c Si pre X o o' hs ho hc => by
      obtain ⟨hc', So, preo, A0, h⟩ := hs
      rw [hz2] at ho ⊢
      exact ⟨hc', So, preo, A0, h.put (fun h => by have := HS0.out _ h; omega) o' ho hc⟩)
    HI0.out
    (fun u a' W => ∃ T5 T6, a' = { tmps := #[.func (.yield l) #[] #[], .pointer (some ⟨Bx, 0, none⟩), .pointer (some ⟨Z, 0, none⟩), .pointer (some ⟨T5, 0, none⟩), .pointer (some ⟨T6, 0, none⟩), .agg #[.int .i64 x.ver, .slice x.pa x.procs.length x.pc, .slice x.la x.links.length x.lc, .slice x.ea x.events.length x.ec], .func (.func 84) #[] #[.pointer (some ⟨Z + 1, 0, none⟩)], .agg #[.int .i64 u.x.ver, .slice u.x.pa u.x.procs.length u.x.pc, .slice u.x.la u.x.links.length u.x.lc, .slice u.x.ea u.x.events.length u.x.ec], .agg #[.int .i64 u.e, .int .i64 u.ea], undef, undef, undef, undef, undef, undef, undef, undef, undef, undef], defers := [] } ∧ W.heap[T5]? = some (.cells #[.int .i64 u.x.ver, .slice u.x.pa u.x.procs.length u.x.pc, .slice u.x.la u.x.links.length u.x.lc, .slice u.x.ea u.x.events.length u.x.ec] 26 (0, 0)) ∧ W.heap[T6]? = some (.cells #[.int .i64 u.e, .int .i64 u.ea] 33 (0, 0)))
    (fun u a' W l o o' hs hl ho hc => by
      obtain ⟨T5, T6, h1, h2, h3⟩ := hs
      have hp := CellsStay.put o' ho hc
      exact ⟨T5, T6, h1, hp.2 _ _ h2 rfl, hp.2 _ _ h3 rfl⟩) ?assign ?body ?done ?stop
  case assign =>
    rintro l' Si pre u A0 W K hI hT hat hK
    unfold encU
    gi_wp2
    refine hK _ _ (((Below.refl _ _).alloc (Nat.le_refl _) _).alloc (by simp) _) ⟨W.heap.size, W.heap.size + 1, rfl, heap_alloc (heap_new _ rfl) _, heap_new _ (by simp)⟩
  case body =>
    rintro l' m Si pre u a' Ai W hI hok hzA hT hall hm1 hm2 ⟨T5, T6, rfl, h5, h6⟩ hat hpre
    obtain ⟨So, preo, A0, hi⟩ := hI
    have hlZ : Z + 2 ≤ Ai.heap.size := by omega
    have htu : Turned (OwnB S0 So) A0 W := Turned.then_ hi.tu hT (fun k hk h => by
      have h1 := hok k h.1
      have h2 : ¬ S0 k := fun h0 => h.2 (.inl h0)
      refine ⟨(hi.sub k h.1).resolve_right (by omega), h2⟩)
    have hbz : W.heap[Z]? = some (.cells #[.func (.yield l) #[] #[]] 28 (0, 0)) := hT.old hi.bx (fun h => by
      rcases (hok Z h.1).1 with h1 | h1
      · exact h.2 h1
      · omega)
    have hallo : ∀ x' ∈ preo, ∀ S', AtW S' x' A0 → AtW S' x' W := fun x' hx' S' h => by
      have h1 := hi.all x' hx' S' h
      exact ⟨h1.1.keep (S := fun k => ¬ Si k ∧ k < Ai.heap.size) (Turned.weak' hT (fun k _ hk => fun hn => hn.1 hk.1)) (hi.free x' hx'), h1.2.1, h1.2.2⟩
    have hmW : ∀ k, Si k ∨ (Ai.heap.size ≤ k ∧ k < m) → So k ∨ A0.heap.size ≤ k := fun k hk => by
      rcases hk with h | h
      · exact hi.sub k h
      · have := hi.tu.size
        exact .inr (by omega)
    have hmB : ∀ k, Si k ∨ (Ai.heap.size ≤ k ∧ k < m) → k < W.heap.size := fun k hk => by
      rcases hk with h | h
      · have := (hok k h).2
        omega
      · omega
    have HI := Lib.hid hi
    have HTu := Lib.hid htu
    have HAl := Lib.hid hallo
    have HAt := Lib.hid hat
    have HPre := Lib.hid hpre
    have HBz := Lib.hid hbz
    have HmW := Lib.hid hmW
    have HmB := Lib.hid hmB
    have HZA := Lib.hid (And.intro hzA (And.intro hm1 hm2))
    have HX5 := Lib.hid h5
    have HX6 := Lib.hid h6
    have hzz : Z < W.heap.size := heap_lt hbz
    have hfree : ∀ y ∈ preo, InS (fun k => ¬ (Si k ∨ (Ai.heap.size ≤ k ∧ k < m)) ∧ k < W.heap.size) y := fun y hy => (hi.free y hy).mono (fun k hk => ⟨fun h => h.elim hk.1 (fun h => by omega), by omega⟩)
    have HFr := Lib.hid hfree
    clear hi htu hallo hat hpre hbz hmW hmB hzA hm1 hm2 hT hall h5 h6 hok hfree hlZ
    generalize hS2 : (fun k => Si k ∨ (Ai.heap.size ≤ k ∧ k < m)) = S2 at *
    have HmW2 : Hid (∀ k, S2 k → So k ∨ A0.heap.size ≤ k) := Lib.hid (by rw [← hS2]; exact HmW.out)
    have HmB2 : Hid (∀ k, S2 k → k < W.heap.size) := Lib.hid (by rw [← hS2]; exact HmB.out)
    have HFr2 : Hid (∀ y ∈ preo, InS (fun k => ¬ S2 k ∧ k < W.heap.size) y) := Lib.hid (by rw [← hS2]; exact HFr.out)
    clear hS2 HmW HmB HFr
    by_cases he : u.e = 0
    · have heb : (u.e != 0) = false := by simpa using he
      have HE := Lib.hid he
      clear he
      gi_wp2_with fail
      refine region_round_T (fun X => Below W.heap.size W X) (fun j => decide (j < 7)) rfl (by kernel_rfl) rfl ?_
      change AnyT _ _ _ _ _ _ _ _ 10 _ _ (World.drew _)
      have hd : Below W.heap.size W W.drew := (Below.refl _ _).drew
      have C6 : ∀ X, Below W.heap.size W X → X.cell? ⟨T6, 0, none⟩ = some (.int .i64 u.e) := fun X hX => heap_cell (heap_below HX6.out hX (heap_lt HX6.out)) rfl
      have C5 : ∀ (i : Nat) v, (#[.int .i64 u.x.ver, .slice u.x.pa u.x.procs.length u.x.pc, .slice u.x.la u.x.links.length u.x.lc, .slice u.x.ea u.x.events.length u.x.ec] : Array Value)[i]? = some v → ∀ X, Below W.heap.size W X → X.cell? ⟨T5, i, none⟩ = some v := fun i v hv X hX => heap_cell (heap_below HX5.out hX (heap_lt HX5.out)) hv
      have CZ : ∀ X, Below W.heap.size W X → X.cell? ⟨Z, 0, none⟩ = some (.func (.yield l) #[] #[]) := fun X hX => heap_cell (heap_below HBz.out hX (heap_lt HBz.out)) rfl
      have HC5 := Lib.hid C5
      have HC6 := Lib.hid C6
      have HCZ := Lib.hid CZ
      clear C5 C6 CZ
      generalize World.drew W = X at *
      refine AnyT.take (i := 0) (v := .pointer (some ⟨T6, 0, none⟩)) rfl rfl (by kernel_rfl) (by kernel_rfl) (by kernel_rfl) (by kernel_rfl) (by kernel_rfl) (fun _ _ _ h => h) (by kernel_rfl) (fun x hx => by go_simp) (fun _ => rfl) hd ?_
      try simp only [List.getElem_toArray, List.getElem_cons_zero, List.getElem_cons_succ, Act.put, List.setIfInBounds_toArray, List.set_cons_zero, List.set_cons_succ]
      refine AnyT.take (i := 1) (v := .int .i64 u.e) rfl rfl (by kernel_rfl) (by kernel_rfl) (by kernel_rfl) (by kernel_rfl) (by kernel_rfl) (fun _ _ _ h => h) (by kernel_rfl) (fun x hx => by have c := HC6.out x hx; go_simp) (fun _ => rfl) hd ?_
      try simp only [List.getElem_toArray, List.getElem_cons_zero, List.getElem_cons_succ, Act.put, List.setIfInBounds_toArray, List.set_cons_zero, List.set_cons_succ]
      refine AnyT.take (i := 2) (v := .bool false) rfl rfl (by kernel_rfl) (by kernel_rfl) (by kernel_rfl) (by kernel_rfl) (by kernel_rfl) (fun _ _ _ h => h) (by kernel_rfl) (fun x hx => by go_simp) (fun _ => rfl) hd ?_
      try simp only [List.getElem_toArray, List.getElem_cons_zero, List.getElem_cons_succ, Act.put, List.setIfInBounds_toArray, List.set_cons_zero, List.set_cons_succ]
      refine AnyT.take (i := 3) (v := .bool false) rfl rfl (by kernel_rfl) (by kernel_rfl) (by kernel_rfl) (by kernel_rfl) (by kernel_rfl) (fun _ _ _ h => h) (by kernel_rfl) (fun x hx => by go_simp) (fun _ => rfl) hd ?_
      try simp only [List.getElem_toArray, List.getElem_cons_zero, List.getElem_cons_succ, Act.put, List.setIfInBounds_toArray, List.set_cons_zero, List.set_cons_succ]
      refine AnyT.take (i := 4) (v := .func (.yield l) #[] #[]) rfl rfl (by kernel_rfl) (by kernel_rfl) (by kernel_rfl) (by kernel_rfl) (by kernel_rfl) (fun _ _ _ h => h) (by kernel_rfl) (fun x hx => by have c := HCZ.out x hx; go_simp) (fun _ => rfl) hd ?_
      try simp only [List.getElem_toArray, List.getElem_cons_zero, List.getElem_cons_succ, Act.put, List.setIfInBounds_toArray, List.set_cons_zero, List.set_cons_succ]
      refine AnyT.take (i := 5) (v := .agg #[.int .i64 u.x.ver, .slice u.x.pa u.x.procs.length u.x.pc, .slice u.x.la u.x.links.length u.x.lc, .slice u.x.ea u.x.events.length u.x.ec]) rfl rfl (by kernel_rfl) (by kernel_rfl) (by kernel_rfl) (by kernel_rfl) (by kernel_rfl) (fun _ _ _ h => h) (by kernel_rfl) (fun x hx => by have c0 := HC5.out 0 _ rfl x hx; have c1 := HC5.out 1 _ rfl x hx; have c2 := HC5.out 2 _ rfl x hx; have c3 := HC5.out 3 _ rfl x hx; go_simp) (fun _ => rfl) hd ?_
      try simp only [List.getElem_toArray, List.getElem_cons_zero, List.getElem_cons_succ, Act.put, List.setIfInBounds_toArray, List.set_cons_zero, List.set_cons_succ]
      refine AnyT.ready (rs := [6]) (by kernel_rfl) (by simp) (ReadyT.cons rfl (fun K hK => ?_) ReadyT.nil)
      go_simp
      refine ⟨fun h => (by cases h), (callsIn_wide.2 (copy_any (HAt.out.1.on hd) HAt.out.2.1)).mono ?_⟩
      rintro e A ⟨x1, rfl, hm, hown, hb⟩
      have hSA : Below W.heap.size W A := hd.trans (hb.mono hd.size)
      refine hK _ _ (fun _ => hSA) ?_
      clear hK K
      try simp only [List.getElem_toArray, List.getElem_cons_zero, List.getElem_cons_succ, Act.put, List.setIfInBounds_toArray, List.set_cons_zero, List.set_cons_succ]
      refine AnyT.ready (rs := [7]) (by kernel_rfl) (by simp) (ReadyT.cons rfl (fun K hK => ?_) ReadyT.nil)
      have hzX := hd.size
      have hzA := hSA.size
      have hz0 := HTu.out.size
      have hzp : ∀ v ∈ pre ++ [u], v.e = 0 := fun v hv => by
        rcases List.mem_append.1 hv with h | h
        · exact HI.out.zer v h
        · rw [List.mem_singleton.1 h]
          exact HE.out
      have hmp : (preo ++ [x1]).map ModelV.m = (pre ++ [u]).map (fun v => v.x.m) := by
        rw [List.map_append, List.map_append, HI.out.map]
        simp [hm]
      have hpre : (pre ++ [u]).map (fun v => v.x.m) <+: waysD x.m := by
        obtain ⟨t, ht⟩ := HPre.out
        unfold waysD
        rw [← ht, ways_pre _ _ hzp]
        exact ⟨_, rfl⟩
      obtain ⟨fn, tmps, assign, body, hyl, hRd⟩ := HY.out So preo x1 A0 A HI.out.j (turned_below HTu.out hSA) (fun x' hx' S' h => (HAl.out x' hx' S' h).stay (CellsStay.below hSA)) (by rw [hmp]; exact hpre) ⟨hown.at_, by rw [hm]; exact HAt.out.2.1, InS.own hown (fun k hk => .inr (by omega))⟩
      replace hyl : (Instr.yield l #[.agg #[.int .i64 x1.ver, .slice x1.pa x1.procs.length x1.pc, .slice x1.la x1.links.length x1.lc, .slice x1.ea x1.events.length x1.ec]]).run Try.prog A = _ := hyl
      have HRd := Lib.hid hRd
      have HSA := Lib.hid hSA
      have HOw := Lib.hid hown
      have HMp := Lib.hid hmp
      have HZp := Lib.hid hzp
      clear hRd hSA hown hmp hzp hpre hm hb
      go_simp
      refine ⟨fun h => (by cases h), RoundIn.mono (RoundIn.anyDepth' rfl HRd.out) ?_⟩
      clear hyl HRd
      rintro ee B ⟨hk, ⟨rfl, hj⟩ | ⟨rfl, hj⟩⟩
      · have hlZ : Z < A.heap.size := by omega
        have hrb : Z + 2 + 1 < A.heap.size := by have := HZA.out; omega
        have hkp : KeepS S2 W B := (KeepS.of_below HSA.out (fun k _ h => h)).trans (hk.mono (fun k _ h => HmW2.out k h))
        have hb0 : B.heap[Z + 2]? = W.heap[Z + 2]? := (hk.block _ (by omega) (fun hn => hn HI.out.r0)).trans (HSA.out.block _ (by have := HZA.out; omega))
        have hb1 : B.heap[Z + 2 + 1]? = W.heap[Z + 2 + 1]? := (hk.block _ (by omega) (fun hn => hn HI.out.r1)).trans (HSA.out.block _ (by have := HZA.out; omega))
        have hbx : B.heap[Z]? = some (.cells #[.func (.yield l) #[] #[]] 28 (0, 0)) := hk.at_ HI.out.bz (heap_below HBz.out HSA.out hzz)
        have hzB := hk.size
        have HW : Hid (Iw J S0 l Z (Z + 2) (fun k => So k ∨ (A0.heap.size ≤ k ∧ k < A.heap.size)) (preo ++ [x1]) B S2 (pre ++ [u]) B) := Lib.hid ⟨hj, Turned.refl' _ _, fun _ _ _ h => h, hbx, .inl (HI.out.bz.imp id (fun h => ⟨h, hlZ⟩)), fun k hk => .inl (HI.out.s0 k hk), fun k hk => .inl ((HmW2.out k hk).imp id (fun h => ⟨h, by have := HmB2.out k hk; omega⟩)), (.inl (HI.out.r0.imp id (fun h => ⟨h, by omega⟩))), (.inl (HI.out.r1.imp id (fun h => ⟨h, by omega⟩))), HMp.out, HZp.out, fun y hy => by
          rcases List.mem_append.1 hy with h | h
          · exact (HFr2.out y h).mono (fun k hk => ⟨hk.1, by omega⟩)
          · rw [List.mem_singleton.1 h]
            exact (InS.own (S := fun k => X.heap.size ≤ k) HOw.out (fun k hk => hk)).under HOw.out.at_ (fun k h1 h2 => ⟨fun h => by have := HmB2.out k h; omega, by omega⟩)⟩
        refine hK _ _ (fun h => absurd h (by decide)) ?_
        clear hK K
        try simp only [List.getElem_toArray, List.getElem_cons_zero, List.getElem_cons_succ, Act.put, List.setIfInBounds_toArray, List.set_cons_zero, List.set_cons_succ]
        refine AnyT.ready (rs := [8]) (by kernel_rfl) (by simp) (ReadyT.cons rfl (fun K hK => ?_) ReadyT.nil)
        go_simp
        refine hK _ _ (fun h => absurd h (by decide)) ?_
        clear hK K
        try simp only [List.getElem_toArray, List.getElem_cons_zero, List.getElem_cons_succ, Act.put, List.setIfInBounds_toArray, List.set_cons_zero, List.set_cons_succ]
        refine AnyT.ready (rs := [9]) (by kernel_rfl) (by simp) (ReadyT.cons rfl (fun K hK => ?_) ReadyT.nil)
        go_simp
        refine hK _ _ (fun h => absurd h (by decide)) ?_
        clear hK K
        try simp only [List.getElem_toArray, List.getElem_cons_zero, List.getElem_cons_succ, Act.put, List.setIfInBounds_toArray, List.set_cons_zero, List.set_cons_succ]
        refine AnyT.done (by kernel_rfl) ?_ _
        gi_wp2
        rw [hz2]
        exact ⟨⟨hb0, hb1⟩, hkp, _, _, _, HW.out⟩
      · have hrb : Z + 2 + 1 < A.heap.size := by have := HZA.out; omega
        have hkp : KeepS S2 W B := (KeepS.of_below HSA.out (fun k _ h => h)).trans (hk.mono (fun k _ h => HmW2.out k h))
        have hb0 : B.heap[Z + 2]? = W.heap[Z + 2]? := (hk.block _ (by omega) (fun hn => hn HI.out.r0)).trans (HSA.out.block _ (by have := HZA.out; omega))
        have hb1 : B.heap[Z + 2 + 1]? = W.heap[Z + 2 + 1]? := (hk.block _ (by omega) (fun hn => hn HI.out.r1)).trans (HSA.out.block _ (by have := HZA.out; omega))
        have HW : Hid (Ix J Jx S0 (Z + 2) (fun k => So k ∨ (A0.heap.size ≤ k ∧ k < A.heap.size)) (preo ++ [x1]) B S2 (pre ++ [u]) B) := Lib.hid ⟨.inr ⟨hj, HZp.out, HMp.out⟩, Turned.refl' _ _, fun _ _ _ h => h, .inl (HI.out.r1.imp id (fun h => ⟨h, by omega⟩)), .inl (HI.out.r0.imp id (fun h => ⟨h, by omega⟩)), fun y hy => by
          have hzB := hk.size
          rcases List.mem_append.1 hy with h | h
          · exact (HFr2.out y h).mono (fun k hk => ⟨hk.1, by omega⟩)
          · rw [List.mem_singleton.1 h]
            exact (InS.own (S := fun k => X.heap.size ≤ k) HOw.out (fun k hk => hk)).under HOw.out.at_ (fun k h1 h2 => ⟨fun h => by have := HmB2.out k h; omega, by omega⟩), fun k hk => .inl ((HmW2.out k hk).imp id (fun h => ⟨h, by have := HmB2.out k hk; omega⟩))⟩
        refine hK _ _ (fun h => absurd h (by decide)) ?_
        clear hK K
        try simp only [List.getElem_toArray, List.getElem_cons_zero, List.getElem_cons_succ, Act.put, List.setIfInBounds_toArray, List.set_cons_zero, List.set_cons_succ]
        refine AnyT.ready (rs := [8]) (by kernel_rfl) (by simp) (ReadyT.cons rfl (fun K hK => ?_) ReadyT.nil)
        go_simp
        refine hK _ _ (fun h => absurd h (by decide)) ?_
        clear hK K
        try simp only [List.getElem_toArray, List.getElem_cons_zero, List.getElem_cons_succ, Act.put, List.setIfInBounds_toArray, List.set_cons_zero, List.set_cons_succ]
        refine AnyT.ready (rs := [9]) (by kernel_rfl) (by simp) (ReadyT.cons rfl (fun K hK => ?_) ReadyT.nil)
        go_simp
        refine hK _ _ (fun h => absurd h (by decide)) ?_
        clear hK K
        try simp only [List.getElem_toArray, List.getElem_cons_zero, List.getElem_cons_succ, Act.put, List.setIfInBounds_toArray, List.set_cons_zero, List.set_cons_succ]
        refine AnyT.done (by kernel_rfl) ?_ _
        gi_wp2
        rw [hz2]
        exact ⟨⟨hb0, hb1⟩, hkp, rfl, _, _, _, HW.out⟩
    · have heb : (u.e != 0) = true := by simpa using he
      have HE := Lib.hid he
      clear he
      have d0 : W.cell? ⟨T6, 0, none⟩ = some (.int .i64 u.e) := heap_cell HX6.out rfl
      gi_wp2_with fail
      refine region_round_quiet rfl (by kernel_rfl) rfl (by kernel_rfl) ?_
      repeat (gi_big_quiet_step (fail))
      refine wpQuietIn_nil ?_
      intro _ hw'
      obtain ⟨nq, rfl⟩ := hw'
      gi_wp2
      rw [hz2]
      have hbw : Below W.heap.size W (W.drewN nq) := ⟨rfl, rfl, rfl, Nat.le_refl _, fun _ _ => rfl⟩
      exact ⟨⟨rfl, rfl⟩, KeepS.of_below hbw (fun k _ h => h), rfl, So, preo, A0, .inl ⟨HI.out.j, pre, u, rfl, HI.out.zer, HE.out, HI.out.map⟩, turned_below HTu.out hbw, fun x' hx' S' h => (HAl.out x' hx' S' h).stay (CellsStay.below hbw), HI.out.r1, HI.out.r0, fun y hy => HFr2.out y hy, HmW2.out⟩
  case done =>
    rintro C Si pre W1 W hC hmap hok ⟨So, preo, A0, hi⟩ hT hall hK
    have htu : Turned (OwnB S0 So) A0 W := Turned.then_ hi.tu hT (fun k hk h => by
      have h1 := hok k h.1
      have h2 : ¬ S0 k := fun h0 => h.2 (.inl h0)
      exact ⟨(hi.sub k h.1).resolve_right (by omega), h2⟩)
    have hallo : ∀ x' ∈ preo, ∀ S', AtW S' x' A0 → AtW S' x' W := fun x' hx' S' h => by
      have h1 := hi.all x' hx' S' h
      exact ⟨h1.1.keep (S := fun k => ¬ Si k ∧ k < W1.heap.size) (Turned.weak' hT (fun k _ hk => fun hn => hn.1 hk.1)) (hi.free x' hx'), h1.2.1, h1.2.2⟩
    have hD : preo.map ModelV.m = waysD x.m := by
      unfold waysD
      rw [hi.map, ← hmap]
      have := ways_pre pre [] hi.zer
      rw [List.append_nil, show waysL [] = [] from rfl, List.append_nil] at this
      exact this.symm
    gi_wp2
    refine ⟨by simp, .inl ⟨_, _, rfl, run_takeDeferred hK, ?_⟩⟩
    have hCs : So C ∨ A0.heap.size ≤ C := by rw [hC, hz2]; exact hi.r0
    have hCn : ¬ S0 C := fun h => by have := HS0.out _ h; omega
    have hst := CellsStay.put (.deferred none) hK rfl
    refine ⟨_, by simp [results, Try.f90, go_sem]; rfl, ⟨_, rfl⟩, So, preo, A0, turned_rec htu hCs hCn _, fun x' hx' S' h => (hallo x' hx' S' h).stay hst, .inl ⟨hD, hi.j⟩⟩
  case stop =>
    rintro C c Si pre W1 W hC hmap hok ⟨rfl, So, preo, A0, hi⟩ hT hall hK
    have htu : Turned (OwnB S0 So) A0 W := Turned.then_ hi.tu hT (fun k hk h => by
      have h1 := hok k h.1
      have h2 : ¬ S0 k := fun h0 => h.2 (.inl h0)
      exact ⟨(hi.sub k h.1).resolve_right (by omega), h2⟩)
    have hallo : ∀ x' ∈ preo, ∀ S', AtW S' x' A0 → AtW S' x' W := fun x' hx' S' h => by
      have h1 := hi.all x' hx' S' h
      exact ⟨h1.1.keep (S := fun k => ¬ Si k ∧ k < W1.heap.size) (Turned.weak' hT (fun k _ hk => fun hn => hn.1 hk.1)) (hi.free x' hx'), h1.2.1, h1.2.2⟩
    have hfin : (preo.map ModelV.m = waysD x.m ∧ J So preo A0) ∨ (preo.map ModelV.m <+: waysD x.m ∧ Jx So preo A0) := by
      obtain ⟨t, ht⟩ := hmap
      rcases hi.j with ⟨hj, p, u, rfl, hz, hu, hm⟩ | ⟨hj, hz, hm⟩
      · refine .inl ⟨?_, hj⟩
        unfold waysD
        rw [hm, ← ht, ways_bad hz hu]
      · refine .inr ⟨?_, hj⟩
        unfold waysD
        rw [hm, ← ht, ways_pre _ _ hz]
        exact ⟨_, rfl⟩
    gi_wp2
    refine ⟨by simp, .inl ⟨_, _, rfl, run_takeDeferred hK, ?_⟩⟩
    have hCs : So C ∨ A0.heap.size ≤ C := by rw [hC, hz2]; exact hi.r0
    have hCn : ¬ S0 C := fun h => by have := HS0.out _ h; omega
    have hst := CellsStay.put (.deferred none) hK rfl
    refine ⟨_, by simp [results, Try.f90, go_sem]; rfl, ⟨_, rfl⟩, So, preo, A0, turned_rec htu hCs hCn _, fun x' hx' S' h => (hallo x' hx' S' h).stay hst, hfin⟩
end Go.Proofs.Ytenjhbibhkjdaaa.Md
