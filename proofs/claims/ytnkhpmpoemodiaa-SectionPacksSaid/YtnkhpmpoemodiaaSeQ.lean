/- Contract: the reference's Pack of layer 22. -/
import Derived.Test.YtnkhpmpoemodiaaSeI
import Derived.Test.YtnkhpmpoemodiaaAw
import Derived.Deep.QuietTactic
import Derived.Deep.RegionHeld3
import Derived.Deep.CutRange
set_option linter.unusedVariables false
set_option linter.unusedSectionVars false
set_option linter.unusedSimpArgs false
namespace Go.Proofs.Ytnkhpmpoemodiaa.Se
open Go.RowKit Go.Shelf

theorem Try.infoBs : (Try.prog.info? 45).map (fun i => (i.zero, i.size, i.bytes)) = some (some (.slice none 0 0), 1, 24) := by kernel_rfl
def encC (p : Pc) : List Value := [.slice p.a p.zs.length p.cap]
/-- A piece, apart from the row of pieces. -/
structure PcN (base : Nat) (w : World) (p : Pc) : Prop where
  at_ : PcAt w p
  far : p.zs.length = 0 ∨ p.b < base ∨ ∃ cur fr, w.heap[p.b]? = some (.cells cur 5 fr)
theorem PcN.on {base : Nat} {w w' : World} {p : Pc} (h : PcN base w p) (hb : Below w.heap.size w w') : PcN base w' p :=
  ⟨h.at_.kept hb, h.far.imp id (fun h => h.imp id (fun ⟨cur, fr, hc⟩ => ⟨cur, fr, heap_below hc hb (heap_lt hc)⟩))⟩
theorem PcN.row {base : Nat} {w w' : World} {p : Pc} {row : Option Nat} (h : PcN base w p) (hg : w.grownBy w' row) (hr : ∀ g, row = some g → base ≤ g ∧ ∃ cur t, w.heap[g]? = some (.cells cur t (0, 0)) ∧ t ≠ 5) : PcN base w' p := by
  have hb : p.zs.length = 0 ∨ ∀ g, row = some g → p.b ≠ g := by
    rcases h.far with h1 | h1 | ⟨cur, fr, h1⟩
    · exact .inl h1
    · exact .inr (fun g e => by have := (hr g e).1; omega)
    · refine .inr (fun g e e2 => ?_)
      obtain ⟨_, c, t, h2, h3⟩ := hr g e
      rw [← e2, h1] at h2
      cases h2
      exact h3 rfl
  refine ⟨⟨h.at_.1.stay (S := fun k => ∀ g, row = some g → k ≠ g) (Stay.grown hg (fun k e hk => hk k e rfl)) hb, h.at_.2⟩, ?_⟩
  by_cases hz : p.zs.length = 0
  · exact .inl hz
  · rcases h.far with h1 | h1 | ⟨cur, fr, h1⟩
    · exact .inl h1
    · exact .inr (.inl h1)
    · exact .inr (.inr ⟨cur, fr, heap_kept h1 hg (fun e => (hb.resolve_left hz) _ e.symm rfl)⟩)
theorem gath_pc {w : World} {base b0 : Nat} {v : Value} {zs : List Int} (h : Gath w base 5 1 v zs.length (ivals .u8 zs)) (hf : ∀ x ∈ zs, (Lit.int .u8 x).wf = true) : ∃ p : Pc, v = .slice p.a zs.length p.cap ∧ p.zs = zs ∧ PcN b0 w p := by
  obtain ⟨a, cap, b, rfl, hc1, hc2, hb, hi⟩ := h.ints rfl hf
  refine ⟨⟨a, cap, b, 0, zs⟩, rfl, rfl, ⟨hi, fun e => ?_, hc1⟩, ?_⟩
  · subst e
    rcases h with ⟨h1, _, ao, h2⟩ | h
    · exact ⟨h1, (Value.slice.inj h2).2.2⟩
    · rcases h.2 with ⟨h1, h2⟩ | ⟨g, c9, cur, h1, _⟩
      · exact ⟨h2, (Value.slice.inj h1).2.2⟩
      · have := (Value.slice.inj h1).1
        cases this
  · by_cases hz : zs.length = 0
    · exact .inl hz
    · rcases h with ⟨h1, _, _⟩ | h
      · exact absurd h1 hz
      · rcases h.2 with ⟨h1, h2⟩ | ⟨g, c9, cur, h1, _, hg, _⟩
        · exact absurd h2 hz
        · have h3 : a = some ⟨b, 0, none⟩ := hi.addr.resolve_left hz
          rw [h3] at h1
          cases h1
          exact .inr (.inr ⟨cur, _, hg⟩)
/-- Pieces in a row of one's own. -/
structure PtI (base : Nat) (w0 : World) (ps : List Pc) (v : Value) (n : Nat) (wr : World) : Prop where
  own : wr.ownsRow base 45 1 v n (ps.flatMap encC)
  all : ∀ p ∈ ps, PcN base wr p ∧ p.zs.length ≤ 60000
  low : Below base w0 wr
  sz : base ≤ wr.heap.size
theorem PtI.on {base n : Nat} {w0 : World} {ps : List Pc} {v : Value} {wr w' : World} (h : PtI base w0 ps v n wr) (hb : Below wr.heap.size wr w') : PtI base w0 ps v n w' := by
  obtain ⟨h1, h4, h5, h6⟩ := h
  refine ⟨h1.kept (grown_below hb none) ?_, fun p hp => ⟨(h4 p hp).1.on hb, (h4 p hp).2⟩, h5.trans (hb.mono h6), Nat.le_trans h6 hb.size⟩
  rcases h1.2 with ⟨g1, _⟩ | ⟨g, cap, cur, g1, _⟩
  · exact .inl (by rw [g1]; rfl)
  · exact .inr (by rw [g1]; simp [Value.ownBlock])
theorem PtI.app {base n m : Nat} {w0 : World} {ps qs : List Pc} {v v' : Value} {wr w' : World} (h : PtI base w0 ps v n wr) (hq : ∀ p ∈ qs, PcN base wr p ∧ p.zs.length ≤ 60000)
    (hown : w'.ownsRow base 45 1 v' (n + m) (ps.flatMap encC ++ qs.flatMap encC)) (hg : wr.grownBy w' v.ownBlock) : PtI base w0 (ps ++ qs) v' (n + m) w' := by
  obtain ⟨h1, h4, h5, h6⟩ := h
  have hr : ∀ g, v.ownBlock = some g → base ≤ g ∧ ∃ cur t, wr.heap[g]? = some (.cells cur t (0, 0)) ∧ t ≠ 5 := fun g e => by
    rcases h1.2 with ⟨rfl, _⟩ | ⟨g', cap', cur, rfl, hb, hg', _⟩
    · simp [Value.ownBlock] at e
    · have : g' = g := by simpa [Value.ownBlock] using e
      subst this
      exact ⟨hb, cur, _, hg', by decide⟩
  refine ⟨by rw [List.flatMap_append]; exact hown, fun p hp => ?_, h5.grown hg h6 (fun g e => (hr g e).1), Nat.le_trans h6 hg.size⟩
  rcases List.mem_append.1 hp with hp | hp
  · exact ⟨(h4 p hp).1.row hg hr, (h4 p hp).2⟩
  · exact ⟨(hq p hp).1.row hg hr, (hq p hp).2⟩
theorem PtI.three {base n : Nat} {w0 : World} {ps : List Pc} {v v' : Value} {X w9 : World} {T p2 p3 : Pc} (h : PtI base w0 ps v n X) (hT : PcN base X T) (h2 : PcN base X p2) (h3 : PcN base X p3) (l1 : T.zs.length ≤ 60000) (l2 : p2.zs.length ≤ 60000) (l3 : p3.zs.length ≤ 60000)
    {cs : List Value} (hcs : cs = [T, p2, p3].flatMap encC) (hown : w9.ownsRow base 45 1 v' (n + 3) (ps.flatMap encC ++ cs)) (hg : X.grownBy w9 v.ownBlock) : PtI base w0 (ps ++ [T, p2, p3]) v' (n + 3) w9 :=
  h.app (fun p hp => by
    simp only [List.mem_cons, List.not_mem_nil, or_false] at hp
    rcases hp with rfl | rfl | rfl
    · exact ⟨hT, l1⟩
    · exact ⟨h2, l2⟩
    · exact ⟨h3, l3⟩) (by rw [← hcs]; exact hown) hg
def SP (base : Nat) (w0 : World) (W : World) : Prop := ∃ ps v n, PtI base w0 ps v n W
theorem SP.low {base : Nat} {w0 W : World} (h : SP base w0 W) : Below base w0 W := by obtain ⟨_, _, _, h⟩ := h; exact h.low
theorem SP.alloc {base : Nat} {w0 W : World} (h : SP base w0 W) (o : Obj) : SP base w0 (W.alloc o) := by
  obtain ⟨ps, v, n, h⟩ := h
  exact ⟨ps, v, n, h.on ((Below.refl _ _).alloc (Nat.le_refl _) _)⟩
theorem SP.of {base : Nat} {w0 W : World} {ps : List Pc} {v : Value} {n : Nat} (h : PtI base w0 ps v n W) : SP base w0 W := ⟨_, _, _, h⟩
theorem SP.drew {base : Nat} {w0 W : World} (h : SP base w0 W) : SP base w0 W.drew := by
  obtain ⟨ps, v, n, h⟩ := h
  exact ⟨ps, v, n, h.on (Below.refl _ _).drew⟩
theorem tag_new (base : Nat) (X : World) (t : Int) (ht : (Lit.int .u8 t).wf = true) : PcN base (X.alloc (.cells #[.int .u8 t] 5)) ⟨some ⟨X.heap.size, 0, none⟩, 1, X.heap.size, 0, [t]⟩ :=
  ⟨⟨whole_ints (zs := [t]) (heap_new _ rfl) (by simpa using ht) (by show 1 ≤ maxLen; decide), fun e => (by cases e), Nat.le_refl _⟩, .inr (.inr ⟨_, _, heap_new _ rfl⟩)⟩
theorem new_cells (X : World) (cs : List Value) (t : TypeId) : ∀ j u, cs[j]? = some u → (X.alloc (.cells cs.toArray t)).cell? ((⟨X.heap.size, 0, none⟩ : Addr).add j) = some u := fun j u hj => by
  rw [addr_add, Nat.zero_add]
  exact heap_cell (heap_new _ rfl) (by simpa using hj)
theorem new_cells2 (X : World) (o : Obj) (cs : List Value) (t : TypeId) : ∀ j u, cs[j]? = some u → ((X.alloc o).alloc (.cells cs.toArray t)).cell? ((⟨X.heap.size + 1, 0, none⟩ : Addr).add j) = some u := fun j u hj => by
  have := new_cells (X.alloc o) cs t j u hj
  rw [World.size_alloc] at this
  exact this
theorem one_three (a1 a2 a3 : Option Addr) (n1 n2 n3 c1 c2 c3 : Nat) : ∀ u ∈ [Value.slice a1 n1 c1, Value.slice a2 n2 c2, Value.slice a3 n3 c3], u.oneCell' = true := fun u hu => by
  simp only [List.mem_cons, List.not_mem_nil, or_false] at hu
  rcases hu with rfl | rfl | rfl <;> rfl
/-- What the reference packs. -/
def RPackQ (M : List SecM) (w : World) (e : Ending) (w' : World) : Prop :=
  ∃ v, e = .returned (.tuple #[v, .int .i64 (packE M)]) ∧ Hid (Gath w' w.heap.size 5 1 v (packI M).length (ivals .u8 (packI M)) ∧ Below w.heap.size w w')
theorem rpack_bad {M : List SecM} {w w' : World} {n : Nat} (hn : packE M = n) (h0 : n ≠ 0) (hb : Below w.heap.size w w') : RPackQ M w (.returned (.tuple #[.slice none 0 0, .int .i64 n])) w' := by
  have hp : packI M = [] := by unfold packI; rw [if_neg (by omega)]
  exact ⟨_, by rw [hn], Lib.hid ⟨by rw [hp]; exact .inl ⟨rfl, rfl, _, rfl⟩, hb⟩⟩
theorem riseG_take {M : List SecM} {k : Nat} {x : SecM} (hx : M[k]? = some x) : ∀ a, riseG a (M.take (k + 1)) = (riseG a (M.take k) && decide (((M.take k).getLastD ⟨a, []⟩).tag < x.tag)) := by
  intro a
  obtain ⟨g1, g2⟩ := List.getElem?_eq_some_iff.1 hx
  rw [List.take_succ_eq_append_getElem g1, g2, riseG_append]
theorem rise_stop {M : List SecM} {k : Nat} (h : riseG (-1) (M.take k) = false) : riseB M = false := by
  unfold riseB
  rw [riseG_tags] at h ⊢
  rw [List.map_take] at h
  exact riseT_prefix (List.take_prefix _ _) _ h
theorem inner_wf {M : List SecM} (hl : M.length ≤ 255) (h : ∀ x ∈ M, (Lit.int .u8 x.tag).wf = true ∧ (∀ y ∈ x.body, (Lit.int .u8 y).wf = true) ∧ x.body.length ≤ 60000) : ∀ x ∈ innerI M, (Lit.int .u8 x).wf = true := by
  intro x hx
  unfold innerI at hx
  rcases List.mem_append.1 hx with hx | hx
  · have h4 : ∀ x ∈ signI, (Lit.int .u8 x).wf = true := by decide
    exact h4 x hx
  · rcases List.mem_append.1 hx with hx | hx
    · exact put_wf M.length (by omega) x hx
    · rcases List.mem_append.1 hx with hx | hx
      · obtain ⟨y, hy, hx⟩ := List.mem_flatMap.1 hx
        unfold headI at hx
        rcases List.mem_cons.1 hx with rfl | hx
        · exact (h y hy).1
        · rcases List.mem_append.1 hx with hx | hx
          · exact put_wf y.body.length (by have := (h y hy).2.2; omega) x hx
          · exact fixF_wf _ x hx
      · obtain ⟨y, hy, hx⟩ := List.mem_flatMap.1 hx
        exact (h y hy).2.1 x hx
theorem last_take {M : List SecM} {m : Nat} {y : SecM} (h : M[m]? = some y) (d : SecM) : (M.take (m + 1)).getLastD d = y := by
  obtain ⟨g1, g2⟩ := List.getElem?_eq_some_iff.1 h
  rw [List.take_succ_eq_append_getElem g1, g2]
  simp [List.getLastD_eq_getLast?]
theorem PtI.one {base n : Nat} {w0 : World} {ps : List Pc} {v v' : Value} {X w9 : World} {p : Pc} (h : PtI base w0 ps v n X) (hT : PcN base X p) (l1 : p.zs.length ≤ 60000)
    {cs : List Value} (hcs : cs = [p].flatMap encC) (hown : w9.ownsRow base 45 1 v' (n + 1) (ps.flatMap encC ++ cs)) (hg : X.grownBy w9 v.ownBlock) : PtI base w0 (ps ++ [p]) v' (n + 1) w9 :=
  h.app (fun q hq => by rw [List.mem_singleton.1 hq]; exact ⟨hT, l1⟩) (by rw [← hcs]; exact hown) hg
theorem rise_end {M : List SecM} (h : riseG (-1) (M.take M.length) = true) : riseB M = true := by
  rw [List.take_length] at h; exact h
set_option maxRecDepth 100000 in
set_option maxHeartbeats 4000000 in
theorem rpack_any {w : World} {a : Option Addr} {b off len cap : Nat} {L : List SecV} (h : RowsAt encS fitS 2 w.heap.size w a b off len L) (hin : ∀ x ∈ L, SecIn w.heap.size w x) (hl : len ≤ 100000) (hs : ((secsM L).flatMap (·.body)).length ≤ 50000) : Calls Try.prog 35 #[.slice a len cap] w (RPackQ (secsM L) w) := by
  have HL : Hid ((secsM L).length = len) := Lib.hid (by unfold secsM; rw [List.length_map]; exact h.length)
  have hsm := h.small
  unfold maxLen at hsm
  have HX : Hid (∀ k, k < len → ∃ x, (secsM L)[k]? = some x.m ∧ a = some ⟨b, off, none⟩ ∧ b < w.heap.size ∧ w.cell? ⟨b, off + k * 2, none⟩ = some (.int .u8 x.m.tag) ∧ w.cell? ⟨b, off + k * 2 + 1, none⟩ = some x.bv ∧ fitS x ∧ SecIn w.heap.size w x) := Lib.hid (fun k hk => by
    obtain ⟨x, h1, h2, h3, h4, h5, h6⟩ := sec_cells h hk
    exact ⟨x, by unfold secsM; rw [List.getElem?_map, h1]; rfl, h2, h3, h4, h5, h6, hin x (List.mem_of_getElem? h1)⟩)
  obtain ⟨M, hM⟩ : ∃ M, secsM L = M := ⟨_, rfl⟩
  rw [hM] at HL HX hs ⊢
  have HSZ := Lib.hid hs
  clear h hin hM hs
  by_cases h255 : 255 < len
  · have h255i : (255 : Int) < (len : Int) := by omega
    have HQ : Hid (RPackQ M w (.returned (.tuple #[.slice none 0 0, .int .i64 3])) w) := Lib.hid (rpack_bad (by unfold packE; rw [if_pos (by rw [HL.out]; exact h255)]) (by decide) (Below.refl _ _))
    go_enter Try.func35, Try.ntmps35
    go_wp2
    go_ret2
    exact HQ.out
  · have h255i : ¬ (255 : Int) < (len : Int) := by omega
    obtain ⟨i0, hi0, hz0, hz1, hz2⟩ := info_parts Try.infoBs
    have HI := Lib.hid hi0
    have HZ0 := Lib.hid hz0
    have HZ1 := Lib.hid hz1
    have HZ2 := Lib.hid hz2
    clear hi0 hz0 hz1 hz2
    have HPt := Lib.hid (rput_any len (w.alloc (.cells #[.int .u8 83, .int .u8 65, .int .u8 78, .int .u8 68] 5)) (by omega))
    go_enter Try.func35, Try.ntmps35
    go_wp2_with fail
    refine HPt.out.mono ?_
    rintro e w1 ⟨v1, rfl, hg1, hb1⟩
    obtain ⟨p1, rfl, hp1, hn1⟩ := gath_pc (b0 := w.heap.size) hg1 (put_wf len (by omega))
    have hb01 : Below w.heap.size w w1 := ((Below.refl _ w).alloc (Nat.le_refl _) _).trans (hb1.mono (by simp))
    have hsg : w1.heap[w.heap.size]? = some (.cells sgA 5 (0, 0)) := heap_below (heap_new (w := w) (.cells sgA 5) rfl) hb1 (by simp)
    have hn0 : PcN w.heap.size w1 ⟨some ⟨w.heap.size, 0, none⟩, 4, w.heap.size, 0, signI⟩ := ⟨⟨whole_ints (zs := signI) hsg (by decide) (by decide), fun e => (by cases e), Nat.le_refl _⟩, .inr (.inr ⟨_, _, hsg⟩)⟩
    have hpl1 : p1.zs.length = (putF len).length := by rw [hp1]
    have HP0 : Hid (PtI w.heap.size w [⟨some ⟨w.heap.size, 0, none⟩, 4, w.heap.size, 0, signI⟩, p1] (.slice (some ⟨w1.heap.size, 0, none⟩) 2 2) 2 (w1.alloc (.cells #[.slice (some ⟨w.heap.size, 0, none⟩) 4 4, .slice p1.a (putF len).length p1.cap] 45))) := Lib.hid ⟨⟨by simp [encC], .inr ⟨w1.heap.size, 2, _, rfl, hb01.size, heap_new _ rfl, Nat.le_refl _, by decide, rfl, by simp only [List.flatMap_cons, List.flatMap_nil, encC, hp1]; rfl⟩⟩, fun p hp => by
        simp only [List.mem_cons, List.not_mem_nil, or_false] at hp
        rcases hp with rfl | rfl
        · exact ⟨hn0.on ((Below.refl _ _).alloc (Nat.le_refl _) _), by show 4 ≤ 60000; decide⟩
        · exact ⟨hn1.on ((Below.refl _ _).alloc (Nat.le_refl _) _), by rw [hpl1]; have := putF_len len; omega⟩, hb01.alloc hb01.size _, by simp; have := hb01.size; omega⟩
    have HZP := Lib.hid hp1
    clear hg1 hb1 hn1 hp1 hb01 hsg hn0 hpl1 HPt
    go_wp2_with fail
    have HP00 : Hid ([(⟨some ⟨w.heap.size, 0, none⟩, 4, w.heap.size, 0, signI⟩ : Pc), p1].flatMap Pc.zs = signI ++ putF len ++ (M.take 0).flatMap headI) := Lib.hid (by simp [HZP.out])
    go_loopw [4, 5] (fun v i wr => ∃ (k g c nn : Nat) (ps : List Pc), k ≤ len ∧ i = .int .i64 (k : Int) ∧ v = .slice (some ⟨g, 0, none⟩) nn c ∧ Hid (PtI w.heap.size w ps (.slice (some ⟨g, 0, none⟩) nn c) nn wr ∧ ps.flatMap Pc.zs = signI ++ putF len ++ (M.take k).flatMap headI ∧ ps.length = nn) ∧ Hid (nn = 2 + 3 * k) ∧ Hid (riseG (-1) (M.take k) = true)) (fun _ i _ => len - (intOf i).toNat)
    case atStart => exact ⟨0, _, 2, 2, _, Nat.zero_le _, rfl, rfl, Lib.hid ⟨HP0.out, HP00.out, rfl⟩, Lib.hid rfl, Lib.hid rfl⟩
    case round =>
      obtain ⟨k, g, c, nn, ps, hk, rfl, rfl, HP, HNN, HR⟩ := hrel
      clear HP00 HP0
      have hk0 : (0 : Int) ≤ (k : Int) := Int.natCast_nonneg k
      have hnn : nn ≤ 1000 := by have := HNN.out; omega
      by_cases hk1 : k < len
      · obtain ⟨x, hx, ha, hb, e0, e1, hfx, hxi⟩ := HX.out k hk1
        have c0 := (HP.out.1.low.cell (p := ⟨b, off + k * 2, none⟩) hb).trans e0
        have c1 := (HP.out.1.low.cell (p := ⟨b, off + k * 2 + 1, none⟩) hb).trans e1
        have hbl : x.m.body.length ≤ 50000 := Nat.le_trans (inner_len M x.m (List.mem_of_getElem? hx)) HSZ.out
        have HN : Hid ((M.take (k + 1)).flatMap headI = (M.take k).flatMap headI ++ headI x.m) := Lib.hid (flat_snoc headI hx)
        have HRK := Lib.hid (riseG_take hx (-1))
        have HXk := Lib.hid hx
        have HXI := Lib.hid hxi
        have hki : (k : Int) < (len : Int) := by omega
        have hfxb := bounds_u8 hfx
        have hbw : b < wr.heap.size := by have := HP.out.1.sz; omega
        unfold SecV.bv at c1
        obtain ⟨t, ht⟩ : ∃ t, x.m.tag = t := ⟨_, rfl⟩
        obtain ⟨bl, hbl2⟩ : ∃ bl, x.m.body.length = bl := ⟨_, rfl⟩
        rw [ht] at c0 e0 HRK hfxb
        rw [hbl2] at c1 hbl
        have HE1 : Hid (w.cell? ⟨b, off + k * 2 + 1, none⟩ = some (.slice x.ba bl x.bc)) := Lib.hid (by rw [e1]; unfold SecV.bv; rw [hbl2])
        have HTB := Lib.hid (And.intro ht hbl2)
        have HFX : Hid ((Lit.int .u8 t).wf = true) := Lib.hid (by rw [← ht]; exact hfx)
        obtain ⟨rb, hrb⟩ : ∃ rb, (!riseG (-1) (M.take (k + 1))) = rb := ⟨_, rfl⟩
        have HE0 := Lib.hid e0
        clear e0 e1 hx hfx hxi ht hbl2
        subst ha
        go_wp2_with fail
        go_cut [38] from 23 to 38 (fun s wx => s = .bool rb ∧ Hid (PtI w.heap.size w ps (.slice (some ⟨g, 0, none⟩) nn c) nn wx))
        case first =>
          by_cases hkz : k = 0
          · have h0i : ¬ (0 : Int) < (k : Int) := by omega
            have h0n : ¬ 0 < k := by omega
            have h0d : decide (0 < k) = false := by simpa using h0n
            have h0e : decide ((0 : Int) < (k : Int)) = false := by simpa using h0i
            have HR1 : Hid (rb = false) := Lib.hid (by rw [← hrb, HRK.out, HR.out, hkz, List.take_zero, Bool.true_and]; show (!decide ((-1 : Int) < t)) = false; simp; omega)
            clear hkz HRK hrb
            go_quiet (fail)
            go_wp2_with fail
            go_meet
            exact ⟨by rw [HR1.out], Lib.hid (HP.out.1.on (drewN_below wr _))⟩
          · have h0i : (0 : Int) < (k : Int) := by omega
            have h0n : 0 < k := by omega
            have h0d : decide (0 < k) = true := by simpa using h0n
            have h0e : decide ((0 : Int) < (k : Int)) = true := by simpa using h0i
            obtain ⟨m, hm⟩ : ∃ m, k - 1 = m := ⟨_, rfl⟩
            obtain ⟨y, hy, _, _, f0, _, hfy, _⟩ := HX.out m (by omega)
            have f0' := (HP.out.1.low.cell (p := ⟨b, off + m * 2, none⟩) hb).trans f0
            have hmi : (k : Int) - 1 = (m : Int) := by omega
            have hml : (m : Int) < (len : Int) := by omega
            have hm0 : (0 : Int) ≤ (m : Int) := Int.natCast_nonneg m
            obtain ⟨ty, hty⟩ : ∃ ty, y.m.tag = ty := ⟨_, rfl⟩
            have HR1 : Hid (rb = decide (t ≤ ty)) := Lib.hid (by
              rw [← hrb, HRK.out, HR.out, Bool.true_and, show k = m + 1 by omega, last_take hy, hty]
              by_cases h : t ≤ ty
              · simp [h] <;> omega
              · simp [h]; omega)
            rw [hty] at f0'
            clear hkz HRK hrb f0 hy hfy hty hm
            go_quiet (fail)
            go_wp2_with fail
            go_meet
            exact ⟨by rw [HR1.out], Lib.hid (HP.out.1.on (drewN_below wr _))⟩
        case rest =>
        obtain ⟨rfl, HPc⟩ := hcut
        have c1' := (HPc.out.low.cell (p := ⟨b, off + k * 2 + 1, none⟩) hb).trans HE1.out
        have hbc : b < wc.heap.size := by have := HPc.out.sz; omega
        clear c0 c1 hbw
        have c1 := c1'
        clear c1'
        cases rb with
        | true =>
          have HQ : Hid (∀ w', Below w.heap.size w w' → RPackQ M w (.returned (.tuple #[.slice none 0 0, .int .i64 46])) w') := Lib.hid (fun w' hb' => rpack_bad (by
            have hr : riseB M = false := rise_stop (k := k + 1) (by simpa using hrb)
            unfold packE
            rw [if_neg (by rw [HL.out]; exact h255), if_neg (by rw [hr]; decide)]) (by decide) hb')
          clear hrb
          go_wp2
          go_ret2
          exact HQ.out _ HPc.out.low
        | false =>
          have HR1 : Hid (riseG (-1) (M.take (k + 1)) = true) := Lib.hid (by simpa using hrb)
          clear hrb HRK
          have HPut : Hid (∀ X : World, Calls Try.prog 51 #[.int .u64 (bl : Int)] X (BytesPost X (putF bl))) := Lib.hid (fun X => rput_any bl X (by omega))
          obtain ⟨sm, hsm1⟩ : ∃ sm, sumB x.m.body = sm := ⟨_, rfl⟩
          have hsmb := sumB_bd x.m.body
          rw [hsm1] at hsmb
          have HMore : Hid (∀ X : World, SP w.heap.size w X → Calls Try.prog 63 #[.int .u32 3988292384, .int .u32 0, .slice x.ba bl x.bc] X fun e w' => e = .returned (.int .u32 sm) ∧ X = w') := Lib.hid (fun X hX => by
            have h := rmore_any usual usual_lt 0 (by decide) x.m.body w.heap.size x.ba x.bb x.bo x.m.body.length x.bc X (HXI.out.row.kept hX.low (Nat.le_refl _))
            rw [HTB.out.2] at h
            rw [← hsm1]
            exact h)
          have HFix : Hid (∀ X : World, Calls Try.prog 62 #[.int .u32 sm] X (BytesPost X (fixF sm))) := Lib.hid (fun X => rfix3_any sm X hsmb.1 hsmb.2)
          have HSM := Lib.hid hsm1
          have d0 : ∀ W, SP w.heap.size w W → W.cell? ⟨b, off + k * 2, none⟩ = some (.int .u8 t) := fun W hW => (hW.low.cell (p := ⟨b, off + k * 2, none⟩) hb).trans HE0.out
          have hput9 := put_wf bl (by omega)
          have hfix9 := fixF_wf sm
          obtain ⟨pl, hpl⟩ : ∃ pl, (putF bl).length = pl := ⟨_, rfl⟩
          have hpl10 : pl ≤ 10 := by rw [← hpl]; exact putF_len bl
          have hwr9 : IntKind.u64.wrap (bl : Int) = (bl : Int) := by rw [IntWalk.u64_in _ (by omega)]
          clear hsm1 hsmb
          go_wp2_with fail
          clear c1
          have HPw := HPc
          generalize wc = Wq at *
          have HPe : Hid (PtI w.heap.size w ps (.slice (some ⟨g, 0, none⟩) nn c) nn Wq.drew) := Lib.hid (HPw.out.on (Below.refl _ _).drew)
          have hSq : SP w.heap.size w Wq := ⟨_, _, _, HPw.out⟩
          have hS1 : SP w.heap.size w Wq.drew := ⟨_, _, _, HPe.out⟩
          go_region_held3 (fun W => SP w.heap.size w W) (first | with_reducible exact SP.of HP9.out | with_reducible exact SP.of HP7.out | with_reducible exact SP.of HP5.out | with_reducible exact hS1 | with_reducible exact SP.drew (SP.alloc hSq _) | with_reducible exact SP.alloc (SP.of HP7.out) _ | with_reducible exact SP.alloc (SP.of HP5.out) _ | with_reducible exact SP.alloc (SP.alloc (SP.of HP7.out) _) _) (first
            | (go_at_call 51; refine (HPut.out _).mono ?_; rintro e w5 ⟨v5, rfl, hg5, hb5⟩; obtain ⟨p2, rfl, hp2, hn2⟩ := gath_pc (b0 := w.heap.size) hg5 hput9; with_reducible have HP5 := Lib.hid (PtI.on (by first | with_reducible exact HPe.out | with_reducible exact (HPw.out.on ((Below.refl _ _).alloc (Nat.le_refl _) _)).on (Below.refl _ _).drew) hb5); have HN5 := Lib.hid (And.intro hp2 hn2); first | (with_reducible have HT5 := Lib.hid (((tag_new w.heap.size Wq t HFX.out).on (Below.refl _ _).drew).on hb5)) | skip; rw [hpl]; clear hg5 hb5 hp2 hn2)
            | (go_at_call 63; refine (HMore.out _ (by assumption)).mono ?_; rintro e w6 ⟨rfl, rfl⟩)
            | (go_at_call 62; refine (HFix.out _).mono ?_; rintro e w7 ⟨v7, rfl, hg7, hb7⟩; obtain ⟨p3, rfl, hp3, hn3⟩ := gath_pc (b0 := w.heap.size) hg7 hfix9; with_reducible have HP7 := Lib.hid (PtI.on (by first | with_reducible exact HP5.out | with_reducible exact HP5.out.on ((Below.refl _ _).alloc (Nat.le_refl _) _)) hb7); have HN7 := Lib.hid (And.intro hp3 hn3); with_reducible have HN57 := Lib.hid (And.intro HN5.out.1 (PcN.on (by first | with_reducible exact HN5.out.2 | with_reducible exact HN5.out.2.on ((Below.refl _ _).alloc (Nat.le_refl _) _)) hb7)); first | (with_reducible have HT7 := Lib.hid (HT5.out.on hb7)) | (with_reducible have HT7 := Lib.hid ((tag_new w.heap.size _ t HFX.out).on hb7)) | skip; rw [fixF_length]; clear hg7 hb7 hp3 hn3)
            | (refine step_append_where rfl (.tmp 44) (.tmp 58) 105 rfl w.heap.size 45 i0 (.slice none 0 0) 1 24 Try.underlying105 HI.out HZ0.out HZ1.out HZ2.out rfl (by decide) (.slice (some ⟨g, 0, none⟩) nn c) nn (ps.flatMap encC) rfl (by with_reducible exact (HP7.out.on ((Below.refl _ _).alloc (Nat.le_refl _) _)).own) ⟨_, 0, none⟩ 3 3 _ rfl rfl (new_cells _ _ _) (one_three _ _ _ _ _ _ _ _ _) (by decide) (by unfold maxLen; omega) (by omega) (by have := HP7.out.sz; simp; omega) ?_; intro g9 c9 w9 hown9 hgr9 hc9 hat9; have HP9 := Lib.hid (PtI.three (HP7.out.on ((Below.refl _ _).alloc (Nat.le_refl _) _)) (HT7.out.on ((Below.refl _ _).alloc (Nat.le_refl _) _)) (HN57.out.2.on ((Below.refl _ _).alloc (Nat.le_refl _) _)) (HN7.out.2.on ((Below.refl _ _).alloc (Nat.le_refl _) _)) (by show 1 ≤ 60000; decide) (by rw [HN57.out.1, hpl]; omega) (by rw [HN7.out.1, fixF_length]; decide) (by simp [encC, HN57.out.1, HN7.out.1, hpl, fixF_length]) hown9 hgr9); clear hown9 hgr9 hat9)
            | (refine step_append_where rfl (.tmp 44) (.tmp 58) 105 rfl w.heap.size 45 i0 (.slice none 0 0) 1 24 Try.underlying105 HI.out HZ0.out HZ1.out HZ2.out rfl (by decide) (.slice (some ⟨g, 0, none⟩) nn c) nn (ps.flatMap encC) rfl (by with_reducible exact ((HP7.out.on ((Below.refl _ _).alloc (Nat.le_refl _) _)).on ((Below.refl _ _).alloc (Nat.le_refl _) _)).own) ⟨_, 0, none⟩ 3 3 _ rfl rfl (new_cells2 _ _ _ _) (one_three _ _ _ _ _ _ _ _ _) (by decide) (by unfold maxLen; omega) (by omega) (by have := HP7.out.sz; simp; omega) ?_; intro g9 c9 w9 hown9 hgr9 hc9 hat9; have HP9 := Lib.hid (PtI.three ((HP7.out.on ((Below.refl _ _).alloc (Nat.le_refl _) _)).on ((Below.refl _ _).alloc (Nat.le_refl _) _)) ((tag_new w.heap.size w7 t HFX.out).on ((Below.refl _ _).alloc (Nat.le_refl _) _)) ((HN57.out.2.on ((Below.refl _ _).alloc (Nat.le_refl _) _)).on ((Below.refl _ _).alloc (Nat.le_refl _) _)) ((HN7.out.2.on ((Below.refl _ _).alloc (Nat.le_refl _) _)).on ((Below.refl _ _).alloc (Nat.le_refl _) _)) (by show 1 ≤ 60000; decide) (by rw [HN57.out.1, hpl]; omega) (by rw [HN7.out.1, fixF_length]; decide) (by simp [encC, HN57.out.1, HN7.out.1, hpl, fixF_length]) hown9 hgr9); clear hown9 hgr9 hat9))
          all_goals
            go_wp2
            go_roundw
            case rel =>
              refine ⟨k + 1, g9, c9, nn + 3, _, by omega, by go_num, rfl, Lib.hid ⟨HP9.out, ?_, ?_⟩, Lib.hid (by have := HNN.out; omega), HR1⟩
              · rw [List.flatMap_append, HP.out.2.1, HN.out]
                simp only [List.flatMap_cons, List.flatMap_nil, List.append_nil, HN57.out.1, HN7.out.1, headI, HTB.out.1, HTB.out.2, HSM.out]
                simp
              · rw [List.length_append, HP.out.2.2]; rfl
            case measure => simp [intOf]; omega
      · obtain rfl : k = len := by omega
        have hE : packE M = 0 := by
          have h1 := HR.out
          rw [← HL.out] at h1
          unfold packE
          rw [if_neg (by rw [HL.out]; exact h255), if_pos (rise_end h1)]
        have hI : packI M = sealI (innerI M) := by unfold packI; rw [if_pos hE]
        have HE := Lib.hid (And.intro hE hI)
        obtain ⟨P1, hP1⟩ : ∃ P1, signI ++ putF k ++ M.flatMap headI = P1 := ⟨_, rfl⟩
        have HP1 : Hid (PtI w.heap.size w ps (.slice (some ⟨g, 0, none⟩) nn c) nn wr ∧ ps.flatMap Pc.zs = P1 ++ (M.take 0).flatMap (·.body) ∧ ps.length = nn) := Lib.hid ⟨HP.out.1, by
          rw [HP.out.2.1, List.take_of_length_le (by rw [HL.out]; exact Nat.le_refl _), hP1, List.take_zero]
          simp, HP.out.2.2⟩
        have HPE := Lib.hid hP1
        have HN1 : Hid (nn = 2 + 3 * k + 0) := Lib.hid (by have := HNN.out; omega)
        clear hE hI hP1 HP HNN HR
        go_wp2_with fail
        go_loopw [4, 7] (fun v i wr => ∃ (j g c nn : Nat) (ps : List Pc), j ≤ k ∧ i = .int .i64 (j : Int) ∧ v = .slice (some ⟨g, 0, none⟩) nn c ∧ Hid (PtI w.heap.size w ps (.slice (some ⟨g, 0, none⟩) nn c) nn wr ∧ ps.flatMap Pc.zs = P1 ++ (M.take j).flatMap (·.body) ∧ ps.length = nn) ∧ Hid (nn = 2 + 3 * k + j)) (fun _ i _ => k - (intOf i).toNat)
        case atStart => exact ⟨0, g, c, nn, ps, Nat.zero_le _, rfl, rfl, HP1, HN1⟩
        case round =>
          obtain ⟨j, g, c, nn, ps, hj, rfl, rfl, HP, HNN⟩ := hrel
          clear HP1 HN1
          have hj0 : (0 : Int) ≤ (j : Int) := Int.natCast_nonneg j
          have hnn : nn ≤ 1100 := by have := HNN.out; omega
          by_cases hj1 : j < k
          · obtain ⟨x, hx, ha, hb, e0, e1, hfx, hxi⟩ := HX.out j hj1
            have c1 := (HP.out.1.low.cell (p := ⟨b, off + j * 2 + 1, none⟩) hb).trans e1
            have hbl : x.m.body.length ≤ 50000 := Nat.le_trans (inner_len M x.m (List.mem_of_getElem? hx)) HSZ.out
            have HN : Hid ((M.take (j + 1)).flatMap (·.body) = (M.take j).flatMap (·.body) ++ x.m.body) := Lib.hid (flat_snoc (fun y => y.body) hx)
            have HPx : Hid (PcN w.heap.size wr ⟨x.ba, x.bc, x.bb, x.bo, x.m.body⟩) := Lib.hid ⟨⟨(hxi.row.kept HP.out.1.low (Nat.le_refl _)).mono HP.out.1.sz, hxi.nil, hxi.cap⟩, hxi.row.below.imp id (fun h => .inl h)⟩
            subst ha
            have hji : (j : Int) < (k : Int) := by omega
            have hbw : b < wr.heap.size := by have := HP.out.1.sz; omega
            unfold SecV.bv at c1
            clear e0 e1 hx hfx hxi
            go_wp2_with (at_builtin; refine wpList_append_where _ rfl _ _ 105 rfl w.heap.size 45 i0 (.slice none 0 0) 1 24 Try.underlying105 HI.out HZ0.out HZ1.out HZ2.out rfl (by decide) (.slice (some ⟨g, 0, none⟩) nn c) nn (ps.flatMap encC) rfl (HP.out.1.on ((Below.refl _ _).alloc (Nat.le_refl _) _)).own ⟨wr.heap.size, 0, none⟩ 1 1 [.slice x.ba x.m.body.length x.bc] rfl rfl (new_cells _ _ _) (fun u hu => by rw [List.mem_singleton.1 hu]; rfl) (by decide) (by unfold maxLen; omega) (by omega) (by have := HP.out.1.sz; simp; omega) ?_; intro g9 c9 w9 hown9 hgr9 hc9 hat9; have HP9 := Lib.hid (PtI.one (HP.out.1.on ((Below.refl _ _).alloc (Nat.le_refl _) _)) (HPx.out.on ((Below.refl _ _).alloc (Nat.le_refl _) _)) (by show x.m.body.length ≤ 60000; omega) (by simp [encC]) hown9 hgr9); clear hown9 hgr9 hat9)
            go_roundw
            case rel =>
              refine ⟨j + 1, g9, c9, nn + 1, _, by omega, by go_num, rfl, Lib.hid ⟨HP9.out, ?_, ?_⟩, Lib.hid (by have := HNN.out; omega)⟩
              · rw [List.flatMap_append, HP.out.2.1, HN.out]
                simp
              · rw [List.length_append, HP.out.2.2]; rfl
            case measure => simp [intOf]; omega
          · obtain rfl : j = k := by omega
            have HZ : Hid (ps.flatMap Pc.zs = innerI M) := Lib.hid (by
              rw [HP.out.2.1, List.take_of_length_le (by rw [HL.out]; exact Nat.le_refl _), ← HPE.out, ← HL.out]
              simp [innerI])
            have HIN : Hid ((innerI M).length ≤ 60000) := Lib.hid (by
              unfold innerI
              simp only [List.length_append]
              have h1 := heads_len M
              have h2 := HSZ.out
              have h3 := putF_len M.length
              have h4 := HL.out
              have h5 : signI.length = 4 := rfl
              omega)
            have hgw : g < wr.heap.size := by
              rcases HP.out.1.own.2 with ⟨h1, _⟩ | ⟨g', cap', cur, h1, _, hg', _⟩
              · have := (Value.slice.inj h1).1
                cases this
              · have := (Value.slice.inj h1).1
                cases this
                exact heap_lt hg'
            have HJ := Lib.hid (join_anyC wr g nn c ps HP.out.2.2 (fun i p hp => ⟨by
              have h1 := rows_flat (enc := encC) (sz := 1) (fun _ => rfl) ps i p hp 0 _ rfl
              have h2 := HP.out.1.own.cells (g := g) rfl _ _ h1
              rw [addr_add] at h2
              rw [show 0 + (i * 1 + 0) = i by omega] at h2
              exact h2, (HP.out.1.all p (List.mem_of_getElem? hp)).1.at_⟩) hgw (by omega) (fun p hp => by have := (HP.out.1.all p hp).2; omega))
            rw [HZ.out] at HJ
            have HB : Hid (Below w.heap.size w wr) := Lib.hid HP.out.1.low
            clear HP HZ hgw
            go_wp2_with fail
            refine HJ.out.mono ?_
            rintro e w5 ⟨v5, rfl, hg5, hb5⟩
            have hwfI : ∀ x ∈ innerI M, (Lit.int .u8 x).wf = true := inner_wf (by rw [HL.out]; omega) (fun x hx => by
              obtain ⟨i, hi⟩ := List.getElem?_of_mem hx
              obtain ⟨y, hy, _, _, _, _, hfy, hyi⟩ := HX.out i (by rw [← HL.out]; exact (List.getElem?_eq_some_iff.1 hi).1)
              rw [hi] at hy
              cases hy
              exact ⟨hfy, hyi.row.fits, by have := inner_len M y.m (List.mem_of_getElem? hi); have := HSZ.out; omega⟩)
            obtain ⟨p5, rfl, hp5, hn5⟩ := gath_pc (b0 := w.heap.size) hg5 hwfI
            have HB5 : Hid (Below w.heap.size w w5) := Lib.hid (HB.out.trans (hb5.mono HB.out.size))
            have HSl := Lib.hid (rseal_any (innerI M) p5.a p5.b p5.off p5.cap w5 (by have h := hn5.at_.1; rw [hp5] at h; exact h) (by have h := hn5.at_.2.1; rw [hp5] at h; exact h) (by have h := hn5.at_.2.2; rw [hp5] at h; exact h) HIN.out)
            obtain ⟨nl, hnl⟩ : ∃ nl, (innerI M).length = nl := ⟨_, rfl⟩
            rw [hnl] at HSl ⊢
            clear hg5 hb5 hp5 hn5 hwfI HJ hnl
            go_wp2_with fail
            refine HSl.out.mono ?_
            rintro e w6 ⟨v6, rfl, hg6, hb6⟩
            have HQ : Hid (RPackQ M w (.returned (.tuple #[v6, .int .i64 0])) w6) := Lib.hid ⟨v6, by rw [HE.out.1]; rfl, Lib.hid ⟨by rw [HE.out.2]; exact gath_base hg6 HB5.out.size, HB5.out.trans (hb6.mono HB5.out.size)⟩⟩
            clear hg6 hb6 HSl
            go_wp2
            go_ret2
            exact HQ.out
end Go.Proofs.Ytnkhpmpoemodiaa.Se
