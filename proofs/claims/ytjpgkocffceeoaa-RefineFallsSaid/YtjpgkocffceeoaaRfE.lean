/- The walks of RefineTwice, RefineBounds and RefineFalls. -/
import Derived.Test.YtjpgkocffceeoaaRfD
import Derived.Test.YtjpgkocffceeoaaLib
import Derived.Test.YtjpgkocffceeoaaMp
import Derived.Test.YtjpgkocffceeoaaRfA
import Derived.Laws.AppendOwnNone
set_option linter.unusedVariables false
set_option linter.unusedSectionVars false
namespace Go.Proofs.Ytjpgkocffceeoaa.L13
open Go.RowKit Go.Shelf Rk

/-- What is kept through a walk: the bounds' box, the graph. -/
structure WkR (w : World) (b0 b1 : Int) (g nb : Nat) (ws : List Int) (F : Nat → Nat → Int) (W : World) : Prop where
  box : W.heap[w.heap.size]? = some (.cells #[.int .i64 b0, .int .i64 b1] 46 (0, 0))
  one : IsG W g nb ws F
  below : Below w.heap.size w W
theorem WkR.on {w W W' : World} {b0 b1 : Int} {g nb : Nat} {ws : List Int} {F : Nat → Nat → Int} (h : WkR w b0 b1 g nb ws F W) (hb : Below W.heap.size W W') : WkR w b0 b1 g nb ws F W' :=
  ⟨heap_below h.box hb (heap_lt h.box), h.one.below hb, h.below.trans (hb.mono h.below.size)⟩
theorem wf_i64t {t : Int} (h1 : 1 ≤ t) (h2 : t ≤ 65536) : (Lit.int .i64 t).wf = true := by
  have q1 : IntKind.i64.min = -9223372036854775808 := by decide
  have q2 : IntKind.i64.max = 9223372036854775807 := by decide
  show (decide (IntKind.i64.min ≤ t) && decide (t ≤ IntKind.i64.max)) = true
  rw [q1, q2, Bool.and_eq_true, decide_eq_true_eq, decide_eq_true_eq]
  omega
theorem and_w (a : Int) : 0 ≤ bits .and .i64 a 65535 ∧ bits .and .i64 a 65535 ≤ 65535 := by
  have h511 : (BitVec.ofInt 64 65535).toNat = 2 ^ 16 - 1 := by decide
  have key : (BitVec.ofInt 64 a &&& BitVec.ofInt 64 65535).toNat = (a % ((2 ^ 64 : Nat) : Int)).toNat % 2 ^ 16 := by
    rw [BitVec.toNat_and, BitVec.toNat_ofInt, h511, Nat.and_two_pow_sub_one_eq_mod]
  have e : bits .and .i64 a 65535 = IntKind.i64.wrap ((BitVec.ofInt 64 a &&& BitVec.ofInt 64 65535).toNat : Nat) := rfl
  rw [e, key, IntKind.wrap_i64]
  omega
/-- What is refined, refined again, stays. -/
theorem Ends.again {ws : List Int} {F : Nat → Nat → Int} {b0 b1 : Int} {ms q q' : List Int} (h : Ends ws F b0 b1 ms q) (h' : Ends ws F b0 b1 q q') : q' = q :=
  Ends.one h' (Ends.stop h.last)
set_option maxRecDepth 100000 in
set_option maxHeartbeats 8000000 in
theorem walk_RefineTwice (a0 : Option Addr) (len0 cap0 : Nat) (z0 : List Int) (a1 : Option Addr) (len1 cap1 : Nat) (z1 : List RopV) (a2 : Option Addr) (len2 cap2 : Nat) (z2 : List Int) (c0 c1 a4 : Int) (w : World) (w0 : IsRow .i64 w a0 len0 cap0 z0) (w1 : IsRops w a1 len1 cap1 z1) (w2 : IsRow .i64 w a2 len2 cap2 z2) (w3 : (Lit.int .i64 c0).wf = true) (w3' : (Lit.int .i64 c1).wf = true) (w4 : (Lit.int .i64 a4).wf = true) :
    Calls Try.prog 8 #[.slice a0 len0 cap0, .slice a1 len1 cap1, .slice a2 len2 cap2, .agg #[.int .i64 c0, .int .i64 c1], .int .i64 a4] w fun e w' => e = .returned (.bool true) ∧ Below w.heap.size w w' := by
  obtain ⟨b0, off0, zs, hi0, hn0⟩ := IsRow.zz w0
  obtain ⟨_, b1, off1, hi1⟩ := w1
  obtain ⟨b2, off2, ms, hi2, hn2⟩ := IsRow.zz w2
  have hb1 : Below w.heap.size w (w.alloc (.cells #[.int .i64 c0, .int .i64 c1] 46)) := (Below.refl _ w).alloc (Nat.le_refl _) _
  have hbx : (w.alloc (.cells #[.int .i64 c0, .int .i64 c1] 46)).heap[w.heap.size]? = some (.cells #[.int .i64 c0, .int .i64 c1] 46 (0, 0)) := heap_new (w := w) _ rfl
  have H0 := Lib.hid (hi0.kept hb1 (Nat.le_refl _))
  have HN0 := Lib.hid hn0
  have H1 := Lib.hid (hi1.kept hb1 (Nat.le_refl _))
  have H2 := Lib.hid (hi2.kept hb1 (Nat.le_refl _))
  have HN2 := Lib.hid hn2
  have HBX := Lib.hid hbx
  have HBw := Lib.hid hb1
  obtain rfl := hi0.length
  obtain rfl := hi2.length
  clear w0 w2 hi0 hn0 hi1 hi2 hn2 hb1 hbx
  go_enter Try.func8, Try.ntmps8
  go_upto_region 1 with fail
  generalize (w.alloc (.cells #[.int .i64 c0, .int .i64 c1] 46)) = x0 at *
  go_wp2_with fail
  refine (alive_any _).mono ?_
  rintro e x1 ⟨rfl, hB1⟩
  have zb := HBw.out.size
  have HB1 := Lib.hid hB1
  have HBd := Lib.hid (build_any (cap0 := cap0) (cap1 := cap1) ((H0.out.kept hB1 (by omega)).mono (by have := hB1.size; omega)) HN0.out ((H1.out.kept hB1 (by omega)).mono (by have := hB1.size; omega)))
  have z1s := hB1.size
  clear hB1
  go_wp2_with fail
  refine HBd.out.mono ?_
  rintro e x2 ⟨hB, hc⟩
  have HB2 := Lib.hid (HBw.out.trans ((HB1.out.trans (hB.mono z1s)).mono zb))
  clear HBd
  rcases hc with ⟨_, rfl⟩ | ⟨⟨hl30, _⟩, g, nb, lo, Bx, X, rfl, hR, _, _⟩
  · have HB3 := Lib.hid (HB2.out.alloc HB2.out.size (.cells #[.slice none 0 0, .slice none 0 0] 29))
    clear hB
    go_wp2
    go_ret
    exact ⟨by simp, HB3.out⟩
  have hR' := both_base hR HB1.out
  have hal := (Below.refl x2.heap.size x2).alloc (Nat.le_refl _) (.cells #[.slice X.wa zs.length X.wc, .slice X.ra zs.length X.rc] 29)
  have hG := (hR'.on hal).one
  have hbt := HB2.out.trans (hal.mono HB2.out.size)
  have hbx0 : Below x0.heap.size x0 (x2.alloc (.cells #[.slice X.wa zs.length X.wc, .slice X.ra zs.length X.rc] 29)) := (HB1.out.trans (hB.mono z1s)).trans (hal.mono (by have := hB.size; omega))
  have HK3 : Hid (WkR w c0 c1 g nb zs (joins zs.length noTab z1) (x2.alloc (.cells #[.slice X.wa zs.length X.wc, .slice X.ra zs.length X.rc] 29))) := Lib.hid ⟨heap_below HBX.out hbx0 (heap_lt HBX.out), hG, hbt⟩
  have HP3 := Lib.hid ((H2.out.kept hbx0 zb).mono hbt.size)
  clear hR hR' hal hG hbt hbx0 hB HB2 HB1 HBX H0 H1 HN0
  unfold XD.val
  go_upto_region 4 with fail
  revert HK3 HP3
  generalize x2.alloc (.cells #[.slice X.wa zs.length X.wc, .slice X.ra zs.length X.rc] 29) = x3
  intro HK3 HP3
  generalize joins zs.length noTab z1 = F at *
  by_cases hms : 60 < ms.length
  · have hd : decide (60 < (ms.length : Int)) = true := by simp; omega
    have HB3 := Lib.hid HK3.out.below
    clear hms
    go_wp2
    go_ret
    exact ⟨rfl, HB3.out⟩
  have hd : decide (60 < (ms.length : Int)) = false := by simp; omega
  have k0 := heap_cell HK3.out.box (i := 0) rfl
  have k1 := heap_cell HK3.out.box (i := 1) rfl
  simp only [List.getElem_toArray, List.getElem_cons_zero, List.getElem_cons_succ] at k0 k1
  have C1 := Lib.hid (refine_any (cap := cap2) HK3.out.one (by omega) (HP3.out.mono (Nat.le_refl _)) HN2.out (by omega) c0 c1)
  go_wp2_with fail
  refine C1.out.mono ?_
  rintro e x4 ⟨qa, qb, qc, q, rfl, hE, hQ, _, hqn, hb⟩
  have hql := hE.length
  have HK4 := Lib.hid (HK3.out.on hb)
  have HQ4 := Lib.hid hQ
  have HE := Lib.hid hE
  have HQN := Lib.hid hqn
  have HQL := Lib.hid hql
  clear hQ hE hqn hql hb C1 HP3 HK3 k0 k1
  have k0 := heap_cell HK4.out.box (i := 0) rfl
  have k1 := heap_cell HK4.out.box (i := 1) rfl
  simp only [List.getElem_toArray, List.getElem_cons_zero, List.getElem_cons_succ] at k0 k1
  have C2 := Lib.hid (refine_any (cap := qc) HK4.out.one (by omega) (by rw [HQL.out]; exact HQ4.out) (by rw [HQL.out]; exact HQN.out) (by rw [HQL.out]; omega) c0 c1)
  unfold RefPost at C2
  rw [HQL.out] at C2
  go_wp2_with fail
  refine C2.out.mono ?_
  rintro e x5 ⟨ra, rb, rc, q', rfl, hE', hQ', _, _, hb⟩
  have hqq := Ends.again HE.out hE'
  subst hqq
  have HK5 := Lib.hid (HK4.out.on hb)
  have HS := Lib.hid (sameints_any (cap := rc) (cap' := qc) hQ' ((HQ4.out.kept hb (Nat.le_refl _)).mono hb.size))
  rw [decide_eq_true rfl] at HS
  clear hQ' hE' hb C2 HK4 HQ4 k0 k1
  go_wp2_with fail
  refine HS.out.mono ?_
  rintro e x6 ⟨rfl, hb⟩
  have HB6 := Lib.hid (HK5.out.on hb).below
  clear hb HS HK5 HE HQN HQL
  obtain ⟨ha1, ha2⟩ := and_w a4
  obtain ⟨y, hy⟩ : ∃ y, bits .and .i64 a4 65535 = y := ⟨_, rfl⟩
  rw [hy] at ha1 ha2
  have hw1 : IntKind.i64.wrap (1 + y) = 1 + y := IntWalk.i64_in _ (by omega)
  obtain ⟨t, ht⟩ : ∃ t, 1 + y = t := ⟨_, rfl⟩
  rw [ht] at hw1
  have ht1 : 1 ≤ t := by omega
  have ht2 : t ≤ 65536 := by omega
  clear ha1 ha2
  have hwf : (Lit.int .i64 t).wf = true := wf_i64t ht1 ht2
  have hal1 := (Below.refl x6.heap.size x6).alloc (Nat.le_refl _) (.cells #[.int .i64 t, .int .i64 t] 2)
  have hal2 := (Below.refl (x6.alloc (.cells #[.int .i64 t, .int .i64 t] 2)).heap.size (x6.alloc (.cells #[.int .i64 t, .int .i64 t] 2))).alloc (Nat.le_refl _) (.cells #[.int .i64 0, .int .i64 1, .int .i64 t] 59)
  have hBd := build_any (cap0 := 2) (cap1 := 1) (((ints_two x6 t t hwf hwf 2).kept hal2 (Nat.le_refl _)).mono hal2.size) (fun e => by cases e) (rops_one (x6.alloc (.cells #[.int .i64 t, .int .i64 t] 2)) ⟨0, 1, t⟩ (by unfold RopV.ok; exact ⟨by simp, by simp, by simp; omega⟩) 59)
  simp only [World.size_alloc] at hBd
  have HBd := Lib.hid hBd
  have HB7 := Lib.hid (HB6.out.trans ((hal1.trans (hal2.mono hal1.size)).mono HB6.out.size))
  have HNe : Hid (newE [t, t] = 0) := Lib.hid (by
    unfold newE
    rw [if_neg (by simp), if_pos (by simp [may_mk ht1 (show t ≤ 1099511627776 by omega)])])
  have hw2 : IntKind.i64.wrap (2 * t) = 2 * t := IntWalk.i64_in _ (by omega)
  have HEn := Lib.hid (two_ends ht1 ht2)
  clear hBd hal1 hal2 hwf HB6
  go_wp2_with fail
  refine HBd.out.mono ?_
  rintro e x8 ⟨hB, hc⟩
  rcases hc with ⟨h1, _⟩ | ⟨_, g', nb', lo', Bx', X', rfl, hR', _, _⟩
  · exfalso
    rcases h1 with h1 | h1 | h1
    · exact h1 HNe.out
    · exact absurd h1 (by simp)
    · exact absurd h1 (by simp)
  have HB8 := Lib.hid (HB7.out.trans (hB.mono HB7.out.size))
  have hG8 : IsG x8 g' nb' [t, t] (tF t) := hR'.one
  have HG8 := Lib.hid hG8
  clear hR' hB HBd HB7 hG8 HNe
  unfold XD.val
  go_upto_region 13 with fail
  have hal := (Below.refl x8.heap.size x8).alloc (Nat.le_refl _) (.cells #[.slice X'.wa 2 X'.wc, .slice X'.ra 2 X'.rc] 29)
  have HB9 := Lib.hid (HB8.out.trans (hal.mono HB8.out.size))
  have HG9 := Lib.hid (HG8.out.below hal)
  clear hal HB8 HG8
  revert HB9 HG9
  generalize hx9 : (x8.alloc (.cells #[.slice X'.wa 2 X'.wc, .slice X'.ra 2 X'.rc] 29)) = x9
  intro HB9 HG9
  clear hx9 hy ht
  have hal := (Below.refl x9.heap.size x9).alloc (Nat.le_refl _) (.cells #[.int .i64 0, .int .i64 1] 3)
  have C5 := Lib.hid (ref_lit (cap := 2) (HG9.out.below hal) (by simp) (ints_two x9 0 1 (by decide) (by decide) 3) (fun e => by cases e) (by decide) (2 * t) t HEn.out)
  have HB10 := Lib.hid (HB9.out.trans (hal.mono HB9.out.size))
  clear hal
  go_wp2_with fail
  refine C5.out.mono ?_
  rintro e x10 ⟨ra, rb, rc, rfl, hR, _, hb⟩
  have p0 := hR.cell 0 (by decide)
  have p1 := hR.cell 1 (by decide)
  have hra := hR.addr.resolve_left (by decide)
  rw [hra]
  simp only [Nat.zero_add, List.getD_cons_zero, List.getD_cons_succ] at p0 p1
  have HB11 := Lib.hid (HB10.out.trans (hb.mono HB10.out.size))
  clear hR hra hb C5 HB10 HB9 HG9 HEn
  go_wp2_with fail
  go_quiet (fail)
  have HB12 := Lib.hid (HB11.out.trans ((show Below x10.heap.size x10 (x10.drewN nq) from ⟨rfl, rfl, rfl, Nat.le_refl _, fun _ _ => rfl⟩).mono HB11.out.size))
  go_wp2
  go_ret
  exact ⟨rfl, HB12.out⟩
end Go.Proofs.Ytjpgkocffceeoaa.L13

namespace Go.Proofs.Ytjpgkocffceeoaa.L13
open Go.RowKit Rk

theorem ivals_append (k : IntKind) (l m : List Int) : ivals k (l ++ m) = ivals k l ++ ivals k m := by unfold ivals; exact List.map_append
theorem ivals_length (k : IntKind) (l : List Int) : (ivals k l).length = l.length := by unfold ivals; exact List.length_map ..
theorem ivals_one (k : IntKind) (l : List Int) : ∀ u ∈ ivals k l, u.oneCell' = true := by
  unfold ivals; intro u hu; obtain ⟨n, _, rfl⟩ := List.mem_map.1 hu; rfl
/-- The elements lie where the slice's address leads, in whatever world keeps what lay below. -/
theorem ints_cells {k : IntKind} {B B' : Nat} {w W : World} {x : Addr} {b off len : Nat} {zs : List Int} (h : IntsAt k B w (some x) b off len zs) (hb : Below B' w W) (hB : B ≤ B') : ∀ j u, (ivals k zs)[j]? = some u → W.cell? (x.add j) = some u := by
  intro j u hj
  unfold ivals at hj
  rw [List.getElem?_map] at hj
  obtain ⟨n, hn, rfl⟩ := Option.map_eq_some_iff.1 hj
  obtain ⟨hjl, hjn⟩ := List.getElem?_eq_some_iff.1 hn
  have hlen := h.length
  have hx : some x = some ⟨b, off, none⟩ := h.addr.resolve_left (by omega)
  cases hx
  rw [addr_add, (h.kept hb hB).cell j (by omega)]
  simp [List.getD, hn]
/-- What is appended is a slice of numbers that lies elsewhere; nil, too. -/
theorem wpList_append_ints {P : Program} (w : World) {ops : Array Oper} {rest : List Oper} {o : Oper} {a : Act} {Q : Exit → Act → World → Prop} (hgd : o.guard = none) (s x : Operand) (t : TypeId)
    (ho : o.op = .call { callee := .builtin .append, args := #[s, x], argTypes := #[t, t] })
    (base : Nat) (e : TypeId) (i : TypeInfo) (z : Value) (bytes : Nat) (ht : P.underlying t = some (.slice e)) (hi : P.info? e = some i) (hz : i.zero = some z)
    (hsize : i.size = 1) (hby : i.bytes = bytes) (hzs : z.cells.size = 1)
    (v : Value) (n : Nat) (xs : List Value) (hs : a.eval s = v) (hown : w.ownsRow base e 1 v n xs)
    (k : IntKind) (B B' : Nat) (w0 : World) (a1 : Option Addr) (b off m c : Nat) (zs : List Int) (hx : a.eval x = .slice a1 m c) (h0 : a1 = none → m = 0 ∧ c = 0) (hI : IntsAt k B w0 a1 b off m zs) (hbel : Below B' w0 w) (hB : B ≤ B')
    (h63 : n + m ≤ maxLen) (hbytes : (n + m) * bytes ≤ 140737488355328) (hbase : base ≤ w.heap.size)
    (h : ∀ v' w', w'.ownsRow base e 1 v' (n + m) (xs ++ ivals k zs) → Below base w w' → wpList P ops Q rest (a.put o.dst v') w') : wpList P ops Q (o :: rest) a w := by
  cases a1 with
  | none =>
    obtain ⟨rfl, rfl⟩ := h0 rfl
    have hz : zs = [] := List.eq_nil_of_length_eq_zero hI.length
    subst hz
    refine wpList_append_own_none hgd s x t ho base e i 1 ht hi v n xs hs hown hx ?_
    refine h v w ?_ (Below.refl _ _)
    simpa [ivals] using hown
  | some y =>
    refine wpList_append_own w hgd s x t ho base e i z 1 bytes ht hi hz hsize hby hzs (by decide) v n xs hs hown y m c (ivals k zs) hx (by rw [ivals_length, hI.length, Nat.mul_one]) (ints_cells hI hbel hB) (ivals_one k zs) h63 hbytes hbase ?_
    intro v' w' h2 h3 _
    exact h v' w' h2 ((Below.refl base w).grown h3 hbase (fun k hk => (hown.lt k hk).1))
theorem wpList_look {P : Program} {ops : Array Oper} {rest : List Oper} {o : Oper} {a : Act} {Q : Exit → Act → World → Prop} {w : World} (hg : o.guard = none) (t : TypeId) (m x : Operand) (hop : o.op = Op.lookup t m x false)
    (mv xv v : Value) (hm : a.eval m = mv) (hx : a.eval x = xv) (hrun : (Instr.lookup t mv xv false).run P w = .ok v w) (h : wpList P ops Q rest (a.put o.dst v) w) : wpList P ops Q (o :: rest) a w := by
  refine wpList_plain hg fun K' hK' => ?_
  unfold Oper.wp
  simp [execOp, hop, hm, hx, hrun, Result.andThen]
  exact hK' _ _ h
/-- A row that a call owns, as one whose first values are known. -/
theorem own_row {W : World} {base : Nat} {e : TypeId} {k : IntKind} {v : Value} {n : Nat} {zs : List Int} (h : W.ownsRow base e 1 v n (ivals k zs)) (hz : zs.length = n) :
    ∃ a cap b, v = .slice a n cap ∧ (n = 0 ∨ a = some ⟨b, 0, none⟩) ∧ (n = 0 ∨ base ≤ b) ∧ OwR W b e n (fun i => .int k (zs.getD i 0)) := by
  rcases h.2 with ⟨rfl, h0⟩ | ⟨g, cap, cur, rfl, hb, hg, hnc, _, _, htake⟩
  · exact ⟨none, 0, 0, by rw [h0], .inl h0, .inl h0, ⟨.inl h0⟩⟩
  · refine ⟨_, cap, g, rfl, .inr rfl, .inr hb, ⟨.inr ⟨cur, hg, fun i hi => ?_⟩⟩⟩
    have e1 : (cur.toList.take (n * 1))[i]? = (ivals k zs)[i]? := by rw [htake]
    rw [List.getElem?_take_of_lt (by omega)] at e1
    rw [← Array.getElem?_toList, e1]
    have hiz : i < zs.length := by omega
    simp [ivals, List.getD_eq_getElem?_getD, List.getElem?_eq_getElem hiz]
theorem owr_grown {W W' : World} {b : Nat} {t : TypeId} {n : Nat} {f : Nat → Value} {row : Option Nat} (h : OwR W b t n f) (hg : W.grownBy W' row) (hn : n = 0 ∨ some b ≠ row) : OwR W' b t n f := by
  rcases h.row with e | ⟨cs, h1, h2⟩
  · exact ⟨.inl e⟩
  · rcases hn with e | e
    · exact ⟨.inl e⟩
    · exact ⟨.inr ⟨cs, (hg.block _ (Array.getElem?_eq_some_iff.1 h1).1 e).trans h1, h2⟩⟩
end Go.Proofs.Ytjpgkocffceeoaa.L13

namespace Go.Proofs.Ytjpgkocffceeoaa.L13
open Go.RowKit Go.Shelf Rk

/-- Parts with moves behind, and what they cut. -/
theorem behind_cut {ws : List Int} {F : Nat → Nat → Int} (h : Tab ws.length F) (hn : ws.length ≤ 1000) (b0 b1 : Int) (ms : List Int) :
    cutF ws.length F ms 2 - cutF ws.length F (behindL ms (movesD ws F b0 b1 ms)) 2 = ((movesD ws F b0 b1 ms).map (·.2)).sum := by
  obtain ⟨_, _, h3, _⟩ := movesD_in h hn b0 b1 ms
  rcases h3 with e | ⟨hl, h2⟩
  · rw [e]; simp [behindL]
  · have hm : movesD ws F b0 b1 ms = [] ∨ movesD ws F b0 b1 ms = movD ws F (bF b0 b1) ms := by
      unfold movesD
      split
      · exact .inl rfl
      · exact .inr rfl
    rcases hm with e | e
    · rw [e]; simp [behindL]
    · have hr : ∀ qs : List Int, qs.length = ws.length → twoM ws.length (mOf qs) → rightP ws.length qs 2 = true := fun qs hq h2 => rightP_mk hq (by omega) (by omega) (fun p hp => by
        obtain ⟨i, hi, rfl⟩ := List.getElem_of_mem hp
        have := h2 i (by omega)
        unfold mOf at this
        rw [List.getD_eq_getElem?_getD, List.getElem?_eq_getElem hi] at this
        simp only [Option.getD_some] at this
        omega)
      have hx : ∀ x ∈ movesD ws F b0 b1 ms, x.1 < ws.length := fun x hx => by
        rw [e] at hx
        exact ((movesM_new _ _ _ _ _ _ _).2 x hx).1
      unfold cutF
      rw [if_pos (hr ms hl h2), if_pos (hr _ (by rw [behindL_length]; exact hl) (behindL_two _ ms hl h2 hx)), e]
      exact moves_cut h (wsF ws) (bF b0 b1) ws.length ms (fun _ => false) hl h2
theorem cutF_bd {n : Nat} {F : Nat → Nat → Int} (h : Tab n F) (hn : n ≤ 1000) (ms : List Int) (k : Int) : 0 ≤ cutF n F ms k ∧ cutF n F ms k ≤ 1099511627776000000 := by
  unfold cutF
  split
  · have h1 := cuS_bd ms (edgesD n F) (fun x hx => by
      obtain ⟨a, b, _, _, _, rfl, h0⟩ := mem_upTo n hx
      exact ⟨by show 0 ≤ F a b; omega, h.hi a b⟩)
    have h2 : (edgesD n F).length ≤ n * n := upTo_len n F n
    have h3 : n * n ≤ 1000 * 1000 := Nat.mul_le_mul hn hn
    omega
  · omega
theorem wf_wide {n : Int} (h0 : -9223372036854775808 ≤ n) (h1 : n ≤ 9223372036854775807) : (Lit.int .i64 n).wf = true := by
  have e1 : IntKind.i64.min = -9223372036854775808 := by decide
  have e2 : IntKind.i64.max = 9223372036854775807 := by decide
  show (decide (IntKind.i64.min ≤ n) && decide (n ≤ IntKind.i64.max)) = true
  rw [e1, e2, Bool.and_eq_true, decide_eq_true_eq, decide_eq_true_eq]
  omega
/-- The sum of what some moves gain. -/
theorem gain_bd {L : List (Nat × Int)} (h : ∀ x ∈ L, - 1099511627776000 ≤ x.2 ∧ x.2 ≤ 1099511627776000) : ∀ j, j ≤ L.length → - (1099511627776000 * (j : Int)) ≤ ((L.take j).map (·.2)).sum ∧ ((L.take j).map (·.2)).sum ≤ 1099511627776000 * (j : Int) := fun j => by
  induction j with
  | zero => intro _; simp
  | succ j ih =>
    intro hj
    have h1 := ih (by omega)
    have h2 := h L[j] (List.getElem_mem (by omega))
    rw [List.take_succ_eq_append_getElem (by omega), List.map_append, List.sum_append]
    simp only [List.map_cons, List.map_nil, List.sum_cons, List.sum_nil]
    constructor <;> omega
/-- What is seen. -/
def seenB (L : List (Nat × Int)) (j : Nat) (x : Int) : Bool := (L.take j).any (fun y => decide ((y.1 : Int) = x))
theorem seenB_new {L : List (Nat × Int)} (hn : (L.map (·.1)).Nodup) {j : Nat} (hj : j < L.length) : seenB L j (L[j].1 : Int) = false := by
  cases e : seenB L j (L[j].1 : Int) with
  | false => rfl
  | true =>
    obtain ⟨y, hy, he⟩ := List.any_eq_true.1 e
    obtain ⟨i, hi, rfl⟩ := List.getElem_of_mem hy
    rw [List.getElem_take] at he
    have hil : i < j := by simp at hi; omega
    have he2 : L[i].1 = L[j].1 := by have := of_decide_eq_true he; omega
    have hp := List.pairwise_iff_getElem.1 hn i j (by simp; omega) (by simp; omega) hil
    simp only [List.getElem_map] at hp
    exact absurd he2 hp
theorem seenB_step {L : List (Nat × Int)} {j : Nat} (hj : j < L.length) (y : Int) : seenB L (j + 1) y = if y = (L[j].1 : Int) then true else seenB L j y := by
  unfold seenB
  rw [List.take_succ_eq_append_getElem hj, List.any_append]
  simp only [List.any_cons, List.any_nil, Bool.or_false]
  by_cases e : y = (L[j].1 : Int)
  · rw [if_pos e, decide_eq_true e.symm]; simp
  · rw [if_neg e, decide_eq_false (fun h => e h.symm)]; simp
theorem gain_thru {W w8 : World} {gb j nk i mk : Nat} {v u : Value} (hc : W.cell? ⟨gb, j, none⟩ = some v) (hg : W.grownBy w8 (some mk)) (h1 : gb ≠ mk) (h2 : gb ≠ nk) : (w8.setCell ⟨nk, i, none⟩ u).cell? ⟨gb, j, none⟩ = some v := by
  have hlt := World.block_lt_of_cell? _ _ hc
  have hlt8 := Nat.lt_of_lt_of_le hlt hg.size
  rw [World.cell?_of_block (w := w8) ((Turned.set w8 nk i u).block gb hlt8 h2), World.cell?_of_block (w := W) (hg.block gb hlt (fun e => h1 (by cases e; rfl)))]
  exact hc
/-- While moves are looked through. -/
structure SnR (xB : World) (nk mk n : Nat) (ms : List Int) (L : List (Nat × Int)) (j : Nat) (W : World) : Prop where
  now : OwR W nk 3 n (fun i => .int .i64 ((behindL ms (L.take j)).getD i 0))
  seen : MapB W Try.prog 3 4 mk j (seenB L j)
  below : Below xB.heap.size xB W
set_option maxRecDepth 100000 in
set_option maxHeartbeats 8000000 in
theorem walk_RefineBounds (a0 : Option Addr) (len0 cap0 : Nat) (z0 : List Int) (a1 : Option Addr) (len1 cap1 : Nat) (z1 : List RopV) (a2 : Option Addr) (len2 cap2 : Nat) (z2 : List Int) (c0 c1 : Int) (w : World) (w0 : IsRow .i64 w a0 len0 cap0 z0) (w1 : IsRops w a1 len1 cap1 z1) (w2 : IsRow .i64 w a2 len2 cap2 z2) (w3 : (Lit.int .i64 c0).wf = true) (w3' : (Lit.int .i64 c1).wf = true) :
    Calls Try.prog 7 #[.slice a0 len0 cap0, .slice a1 len1 cap1, .slice a2 len2 cap2, .agg #[.int .i64 c0, .int .i64 c1]] w fun e w' => e = .returned (.bool true) ∧ Below w.heap.size w w' := by
  obtain ⟨b0, off0, zs, hi0, hn0⟩ := IsRow.zz w0
  obtain ⟨_, b1, off1, hi1⟩ := w1
  obtain ⟨b2, off2, ms, hi2, hn2⟩ := IsRow.zz w2
  have hb1 : Below w.heap.size w (w.alloc (.cells #[.int .i64 c0, .int .i64 c1] 46)) := (Below.refl _ w).alloc (Nat.le_refl _) _
  have hbx : (w.alloc (.cells #[.int .i64 c0, .int .i64 c1] 46)).heap[w.heap.size]? = some (.cells #[.int .i64 c0, .int .i64 c1] 46 (0, 0)) := heap_new (w := w) _ rfl
  have H0 := Lib.hid (hi0.kept hb1 (Nat.le_refl _))
  have HN0 := Lib.hid hn0
  have H1 := Lib.hid (hi1.kept hb1 (Nat.le_refl _))
  have H2 := Lib.hid (hi2.kept hb1 (Nat.le_refl _))
  have HN2 := Lib.hid hn2
  have HBX := Lib.hid hbx
  have HBw := Lib.hid hb1
  obtain rfl := hi0.length
  obtain rfl := hi2.length
  clear w0 w2 hi0 hn0 hi1 hi2 hn2 hb1 hbx
  go_enter Try.func7, Try.ntmps7
  go_upto_region 1 with fail
  generalize (w.alloc (.cells #[.int .i64 c0, .int .i64 c1] 46)) = x0 at *
  go_wp2_with fail
  refine (alive_any _).mono ?_
  rintro e x1 ⟨rfl, hB1⟩
  have zb := HBw.out.size
  have HB1 := Lib.hid hB1
  have HBd := Lib.hid (build_any (cap0 := cap0) (cap1 := cap1) ((H0.out.kept hB1 (by omega)).mono (by have := hB1.size; omega)) HN0.out ((H1.out.kept hB1 (by omega)).mono (by have := hB1.size; omega)))
  have z1s := hB1.size
  clear hB1
  go_wp2_with fail
  refine HBd.out.mono ?_
  rintro e x2 ⟨hB, hc⟩
  have HB2 := Lib.hid (HBw.out.trans ((HB1.out.trans (hB.mono z1s)).mono zb))
  clear HBd
  rcases hc with ⟨_, rfl⟩ | ⟨⟨hl30, _⟩, g, nb, lo, Bx, X, rfl, hR, _, _⟩
  · have HB3 := Lib.hid (HB2.out.alloc HB2.out.size (.cells #[.slice none 0 0, .slice none 0 0] 29))
    clear hB
    go_wp2
    go_ret
    exact ⟨by simp, HB3.out⟩
  have hR' := both_base hR HB1.out
  have hal := (Below.refl x2.heap.size x2).alloc (Nat.le_refl _) (.cells #[.slice X.wa zs.length X.wc, .slice X.ra zs.length X.rc] 29)
  have hG := (hR'.on hal).one
  have hbt := HB2.out.trans (hal.mono HB2.out.size)
  have hbx0 : Below x0.heap.size x0 (x2.alloc (.cells #[.slice X.wa zs.length X.wc, .slice X.ra zs.length X.rc] 29)) := (HB1.out.trans (hB.mono z1s)).trans (hal.mono (by have := hB.size; omega))
  have HK3 : Hid (WkR w c0 c1 g nb zs (joins zs.length noTab z1) (x2.alloc (.cells #[.slice X.wa zs.length X.wc, .slice X.ra zs.length X.rc] 29))) := Lib.hid ⟨heap_below HBX.out hbx0 (heap_lt HBX.out), hG, hbt⟩
  have HP3 := Lib.hid ((H2.out.kept hbx0 zb).mono hbt.size)
  clear hR hR' hal hG hbt hbx0 hB HB2 HB1 HBX H0 H1 HN0
  unfold XD.val
  go_upto_region 4 with fail
  revert HK3 HP3
  generalize x2.alloc (.cells #[.slice X.wa zs.length X.wc, .slice X.ra zs.length X.rc] 29) = x3
  intro HK3 HP3
  generalize joins zs.length noTab z1 = F at *
  by_cases hms : 60 < ms.length
  · have hd : decide (60 < (ms.length : Int)) = true := by simp; omega
    have HB3 := Lib.hid HK3.out.below
    clear hms
    go_wp2
    go_ret
    exact ⟨rfl, HB3.out⟩
  have hd : decide (60 < (ms.length : Int)) = false := by simp; omega
  have HTab := Lib.hid HK3.out.one.tab
  obtain ⟨hL1, hL2, hL3, hL4⟩ := movesD_in HK3.out.one.tab (by omega) c0 c1 ms
  have hbc := behind_cut HK3.out.one.tab (by omega) c0 c1 ms
  have C1 := Lib.hid (lmoves_any (cap := cap2) HK3.out.one (by omega) HP3.out HN2.out 0 0 1000 (by decide))
  rw [show movesD zs F 0 0 ms = [] by unfold movesD; rw [if_pos (.inl ⟨rfl, rfl⟩)]] at C1
  obtain ⟨L, hL⟩ : ∃ L, movesD zs F c0 c1 ms = L := ⟨_, rfl⟩
  rw [hL] at hL1 hL2 hL3 hL4 hbc
  have HL := Lib.hid hL
  have HL2 := Lib.hid hL2
  have HL3 := Lib.hid hL3
  have HL4 := Lib.hid hL4
  have HBC := Lib.hid hbc
  clear hL hL2 hL3 hL4 hbc
  go_wp2_with fail
  refine C1.out.mono ?_
  rintro e x4 ⟨v1, v2, rfl, g1, g2, hb⟩
  obtain ⟨p1, q1, _, rfl, _, _, _, _⟩ := g1.ints (by simp) (by decide)
  obtain ⟨p2, q2, _, rfl, _, _, _, _⟩ := g2.ints (by simp) (by decide)
  rw [show ((encI []).take (1000 : Int).toNat).length = 0 from rfl]
  have HK4 := Lib.hid (HK3.out.on hb)
  have HP4 := Lib.hid ((HP3.out.kept hb (Nat.le_refl _)).mono hb.size)
  clear g1 g2 hb C1 HK3 HP3
  have k0 := heap_cell HK4.out.box (i := 0) rfl
  have k1 := heap_cell HK4.out.box (i := 1) rfl
  simp only [List.getElem_toArray, List.getElem_cons_zero, List.getElem_cons_succ] at k0 k1
  have C2 := Lib.hid (lmoves_any (cap := cap2) HK4.out.one (by omega) HP4.out HN2.out c0 c1 1000 (by decide))
  rw [HL.out, List.take_of_length_le (by simp [encI]; omega)] at C2
  go_wp2_with fail
  refine C2.out.mono ?_
  rintro e x5 ⟨v1, v2, rfl, g1, g2, hb⟩
  have hEl : (encI L).length = L.length := by simp [encI]
  obtain ⟨la, lc, lb, rfl, _, _, hlb, hLI⟩ := g1.ints (by simp) (fun n hn => by
    obtain ⟨y, hy, rfl⟩ := List.mem_map.1 hn
    obtain ⟨z, hz, rfl⟩ := List.mem_map.1 hy
    exact wf_smallR z.1 (by have := (HL2.out z hz).2.1; omega))
  obtain ⟨ga, gc, gb, rfl, _, _, hgb, hGI⟩ := g2.ints (by simp) (fun n hn => by
    obtain ⟨y, hy, rfl⟩ := List.mem_map.1 hn
    obtain ⟨z, hz, rfl⟩ := List.mem_map.1 hy
    have := (HL2.out z hz).2.2
    exact wf_wide (by omega) (by omega))
  rw [hEl] at hLI hGI ⊢
  have HK5 := Lib.hid (HK4.out.on hb)
  have HP5 := Lib.hid ((HP4.out.kept hb (Nat.le_refl _)).mono hb.size)
  have HLI := Lib.hid hLI
  have HGI := Lib.hid hGI
  have hlz : decide ((zs.length : Int) < (L.length : Int)) = false := by simp; omega
  clear g1 g2 hb C2 HK4 HP4 hLI hGI k0 k1 hEl hlb hgb
  go_upto_region 10 with fail
  obtain ⟨i0, hi, hz0, hz1, hz2⟩ := info_parts Gc.Try.infoInt
  have HI := Lib.hid hi
  have HZ0 := Lib.hid hz0
  have HZ1 := Lib.hid hz1
  have HZ2 := Lib.hid hz2
  have HAl := Lib.hid ((Below.refl x5.heap.size x5).alloc (Nat.le_refl _) (.cells #[] 3))
  have hmm := @run_makeMap Try.prog
  clear hi hz0 hz1 hz2
  go_wp2_with (at_builtin; refine wpList_append_ints _ rfl _ _ 24 rfl x5.heap.size 3 i0 (.int .i64 0) 8 Try.underlying24 HI.out HZ0.out HZ1.out HZ2.out rfl (.slice (some ⟨x5.heap.size, 0, none⟩) 0 0) 0 [] rfl (World.ownsRow_made x5 #[] 0 (Nat.le_refl _) (Nat.zero_le _) rfl) .i64 x5.heap.size x5.heap.size x5 a2 b2 off2 ms.length cap2 ms rfl HN2.out HP5.out HAl.out (Nat.le_refl _) (by unfold maxLen; omega) (by omega) (by simp) ?_; intro v' x6 hown hb6; rw [List.nil_append, Nat.zero_add] at hown; obtain ⟨na, nc, nk, rfl, hna, hnk, hrow⟩ := own_row hown rfl; have HN6 := Lib.hid hrow; have HB6 := Lib.hid (HAl.out.trans hb6); clear hown hb6 hrow)
  have HS0 : Hid (SnR x5 nk x6.heap.size ms.length ms L 0 (x6.alloc (.map #[] 0))) := Lib.hid ⟨by
    rw [List.take_zero]
    exact owr_grown HN6.out (World.grownBy_alloc x6 _ none) (.inr (fun e => by cases e)), (MapB.made x6 Try.prog 3 4).congr (fun x => rfl), HB6.out.alloc HB6.out.size _⟩
  have hmk : x5.heap.size ≤ x6.heap.size := HB6.out.size
  have hnm : ms.length = 0 ∨ nk ≠ x6.heap.size := by
    by_cases e : ms.length = 0
    · exact .inl e
    · exact .inr (by have := HN6.out.lt (by omega); omega)
  generalize x6.heap.size = mk at *
  clear HN6 HB6 HAl hmm
  go_loopw [18, 67] (fun s18 i wr => ∃ j : Nat, i = .int .i64 j ∧ j ≤ L.length ∧ s18 = .int .i64 ((L.take j).map (·.2)).sum ∧ Hid (SnR x5 nk mk ms.length ms L j wr)) (fun _ i _ => L.length - (intOf i).toNat)
  case atStart => exact ⟨0, rfl, Nat.zero_le _, by simp, HS0⟩
  case round =>
    clear HS0
    obtain ⟨j, rfl, hj, rfl, HS⟩ := hrel
    by_cases hlt : j < L.length
    · have hjL : (j : Int) < (L.length : Int) := by omega
      have hib := (HL2.out L[j] (List.getElem_mem hlt)).1
      have hg2 := (HL2.out L[j] (List.getElem_mem hlt)).2.2
      have hl := (HLI.out.kept HS.out.below (Nat.le_refl _)).cell j hlt
      have hgc := (HGI.out.kept HS.out.below (Nat.le_refl _)).cell j hlt
      have hgb5 : gb < x5.heap.size := World.block_lt_of_cell? _ _ (HGI.out.cell j hlt)
      have hla := HLI.out.addr.resolve_left (by omega)
      have hga := HGI.out.addr.resolve_left (by omega)
      rw [Nat.zero_add, show ((encI L).map (·.1)).getD j 0 = (L[j].1 : Int) by simp [encI, List.getD_eq_getElem?_getD, hlt]] at hl
      rw [Nat.zero_add, show ((encI L).map (·.2)).getD j 0 = L[j].2 by simp [encI, List.getD_eq_getElem?_getD, hlt]] at hgc
      have hlook := HS.out.seen.look (t := 57) Try.underlying57 Try.underlying3 Try.underlying4 (by kernel_rfl) (x := (L[j].1 : Int)) (wf_smallR _ (by omega))
      rw [seenB_new HL4.out hlt] at hlook
      have hxw := wf_smallR L[j].1 (by omega)
      have hna' := hna.resolve_left (by omega)
      have hnm' := hnm.resolve_left (by omega)
      have hnk' := hnk.resolve_left (by omega)
      have h2 : (behindL ms (L.take j)).getD L[j].1 0 = 0 ∨ (behindL ms (L.take j)).getD L[j].1 0 = 1 := by
        rcases HL3.out with e | ⟨e1, e2⟩
        · rw [e] at hlt; simp at hlt
        · exact behindL_two (n := zs.length) (L.take j) ms e1 e2 (fun x hx => (HL2.out x (List.mem_of_mem_take hx)).2.1) _ (by omega)
      have hcm := HS.out.now.cell hib
      have hfm := HS.out.now.frozen (by omega) L[j].1
      have hbd := gain_bd (L := L) (fun x hx => (HL2.out x hx).2.2) j hj
      have hSm : ((L.take (j + 1)).map (·.2)).sum = ((L.take j).map (·.2)).sum + L[j].2 := by
        rw [List.take_succ_eq_append_getElem hlt, List.map_append, List.sum_append]; simp
      have HSm := Lib.hid hSm
      have HSt := Lib.hid (seenB_step hlt)
      have HBh : Hid (behindL ms (L.take (j + 1)) = flipL (behindL ms (L.take j)) L[j].1) := Lib.hid (by rw [List.take_succ_eq_append_getElem hlt, behindL_snoc])
      have HBl : Hid (L[j].1 < (behindL ms (L.take j)).length) := Lib.hid (by rw [behindL_length]; exact hib)
      generalize hsm : ((L.take j).map (·.2)).sum = sm at *
      have HSm0 := Lib.hid hsm
      obtain ⟨i, hi⟩ : ∃ i, L[j].1 = i := ⟨_, rfl⟩
      obtain ⟨gn, hgn⟩ : ∃ x, L[j].2 = x := ⟨_, rfl⟩
      rw [hi] at hib hl hlook hxw hcm hfm HSt HBh HBl h2
      rw [hgn] at hg2 hgc HSm
      obtain ⟨mm, hmm⟩ : ∃ x, (behindL ms (L.take j)).getD i 0 = x := ⟨_, rfl⟩
      rw [hmm] at h2 hcm
      have HMm := Lib.hid hmm
      have hi0 : decide ((i : Int) < 0) = false := by simp
      have hin : (i : Int) < (ms.length : Int) := by omega
      have hii : (0 : Int) ≤ (i : Int) := by omega
      have hge : decide ((ms.length : Int) ≤ (i : Int)) = false := by simp; omega
      have hw1 : IntKind.i64.wrap (1 - mm) = 1 - mm := IntWalk.i64_in _ (by rcases h2 with rfl | rfl <;> omega)
      have hw2 : IntKind.i64.wrap (sm + gn) = sm + gn := IntWalk.i64_in _ (by omega)
      rw [hla, hga, hna']
      clear hsm hi hgn hmm h2 hSm hbd
      go_wp2_with (first
        | (refine wpList_look rfl 57 (.tmp 72) (.tmp 73) rfl (.map (some mk)) (.int .i64 (i : Int)) (.bool false) rfl rfl hlook ?_)
        | (refine wpList_mapUpdate_B rfl (.tmp 85) (.tmp 86) (.const (.bool true)) 57 rfl 3 4 Try.underlying57 Try.underlying3 Try.underlying4 mk j (seenB L j) rfl HS.out.seen (by unfold maxLen; omega) (i : Int) true rfl rfl hxw ?_; intro w8 hm8 hg8; have hrow8 := owr_grown HS.out.now hg8 (.inr (fun e => hnm' (by cases e; rfl))); have hc8 := hrow8.cell hib; have hf8 := hrow8.frozen (by omega) i; rw [HMm.out] at hc8; have hgc8 : (w8.setCell ⟨nk, i, none⟩ (.int .i64 (1 - mm))).cell? ⟨gb, j, none⟩ = some (.int .i64 gn) := gain_thru hgc hg8 (by omega) (by omega); have H8 := Lib.hid (And.intro hm8 (And.intro hg8 hrow8)); clear hm8 hg8 hrow8))
      have hm9 : MapB (w8.setCell ⟨nk, i, none⟩ (.int .i64 (1 - mm))) Try.prog 3 4 mk (j + 1) (seenB L (j + 1)) := (H8.out.1.congr (fun x => (HSt.out x).symm)).kept (grown_set w8 nk i _) (fun e => hnm' (by cases e; rfl))
      have hr9 : OwR (w8.setCell ⟨nk, i, none⟩ (.int .i64 (1 - mm))) nk 3 ms.length (fun c => .int .i64 ((behindL ms (L.take (j + 1))).getD c 0)) := (H8.out.2.2.set hib _).congr (fun c hc => by
        rw [HBh.out]
        unfold flipL
        by_cases e2 : c = i
        · subst e2
          rw [if_pos rfl]
          have hb := HBl.out
          simp [List.getD_eq_getElem?_getD, hb, ← HMm.out]
        · rw [if_neg e2]
          simp [List.getD_eq_getElem?_getD, show ¬ i = c from fun h => e2 h.symm])
      have HS9 : Hid (SnR x5 nk mk ms.length ms L (j + 1) (w8.setCell ⟨nk, i, none⟩ (.int .i64 (1 - mm)))) := Lib.hid ⟨hr9, hm9, (HS.out.below.grown H8.out.2.1 HS.out.below.size (fun r e => by cases e; exact hmk)).setCell (p := ⟨nk, i, none⟩) hnk' _⟩
      clear hm9 hr9 H8
      go_roundw
      case rel => exact ⟨j + 1, by go_num, by omega, by rw [HSm.out], HS9⟩
      case measure => simp [intOf]; omega
    · obtain rfl : j = L.length := by omega
      have HB5 := HS.out.below
      have HK6 := Lib.hid (HK5.out.on HB5)
      have HP6 := Lib.hid ((HP5.out.kept HB5 (Nat.le_refl _)).mono HB5.size)
      have hbl : (behindL ms L).length = ms.length := behindL_length _ _
      have hnow : IntsAt .i64 wr.heap.size wr na nk 0 ms.length (behindL ms L) := ⟨hna, hbl, by unfold maxLen; omega, by
        by_cases e : ms.length = 0
        · exact .inl e
        · exact .inr (HS.out.now.lt (by omega)), fun c hc => by
          have := HS.out.now.cell hc
          rw [List.take_length] at this
          rw [Nat.zero_add]; exact this, fun n hn => by
          rcases HL3.out with e | ⟨e1, e2⟩
          · rw [show behindL ms L = ms by rw [e]; rfl] at hn
            exact HP5.out.fits n hn
          · obtain ⟨c, hc, rfl⟩ := List.getElem_of_mem hn
            have := behindL_two (n := zs.length) L ms e1 e2 (fun x hx => (HL2.out x hx).2.1) c (by omega)
            unfold mOf at this
            rw [List.getD_eq_getElem?_getD, List.getElem?_eq_getElem hc] at this
            simp only [Option.getD_some] at this
            rcases this with e3 | e3 <;> rw [e3] <;> decide⟩
      have HNow := Lib.hid hnow
      have hk1 := cutF_bd HTab.out (by omega) ms 2
      have hk2 := cutF_bd HTab.out (by omega) (behindL ms L) 2
      have C3 := Lib.hid (cut_any (cap := cap2) HK6.out.one (by omega) HP6.out 2)
      have hsum := HBC.out
      rw [List.take_length]
      generalize (L.map (·.2)).sum = sm at *
      obtain ⟨q1, hq1⟩ : ∃ x, cutF zs.length F ms 2 = x := ⟨_, rfl⟩
      obtain ⟨q2, hq2⟩ : ∃ x, cutF zs.length F (behindL ms L) 2 = x := ⟨_, rfl⟩
      rw [hq1] at hk1 hsum C3
      rw [hq2] at hk2 hsum
      have HQ2 := Lib.hid hq2
      have hw3 : IntKind.i64.wrap (q1 - q2) = q1 - q2 := IntWalk.i64_in _ (by omega)
      have hsb : ((q1 - q2 : Int) == sm) = true := by simpa using hsum
      clear hq1 hq2 hnow HS HB5 hsum hbl
      go_wp2_with fail
      refine C3.out.mono ?_
      rintro e x7 ⟨rfl, hb⟩
      have HK7 := Lib.hid (HK6.out.on hb)
      have C4 := Lib.hid (cut_any (cap := nc) HK7.out.one (by omega) ((HNow.out.kept hb (Nat.le_refl _)).mono hb.size) 2)
      rw [HQ2.out] at C4
      clear hb C3 HK6 HP6
      go_wp2_with fail
      refine C4.out.mono ?_
      rintro e x8 ⟨rfl, hb⟩
      have HB8 := Lib.hid (HK7.out.on hb).below
      clear hb C4
      go_wp2
      go_ret
      exact ⟨rfl, HB8.out⟩
end Go.Proofs.Ytjpgkocffceeoaa.L13

namespace Go.Proofs.Ytjpgkocffceeoaa.L13
open Go.RowKit Rk

theorem fit_moves {n : Nat} {F : Nat → Nat → Int} {ws : Nat → Int} (hw : ∀ i, i < n → 0 ≤ ws i) {b : Int → Int} {t : Int} : ∀ (k : Nat) (ms : List Int) (mv : Nat → Bool), ms.length = n → twoM n (mOf ms) → t = 0 ∨ t = 1 → hvM n ws (mOf ms) t ≤ b t →
    hvM n ws (mOf (behindL ms (movesM n F ws b k (mOf ms) mv))) t ≤ b t
  | 0, ms, mv, hl, h2, ht, h => by simpa [movesM, behindL] using h
  | k + 1, ms, mv, hl, h2, ht, h => by
    unfold movesM
    split
    · simpa [behindL] using h
    · rename_i i hi
      obtain ⟨h1, hm⟩ := bestM_lt _ _ _ _ hi
      have hf := flipL_of (ms := ms) (i := i) (by omega)
      obtain ⟨k1, k2⟩ := hv_flip (ws := ws) h2 h1
      have hroom : hvM n ws (mOf ms) (1 - mOf ms i) + ws i ≤ b (1 - mOf ms i) := by
        unfold mayM at hm
        simp only [Bool.and_eq_true, decide_eq_true_eq] at hm
        exact hm.2
      have hn : hvM n ws (mOf (flipL ms i)) t ≤ b t := by
        rw [hf]
        by_cases e : t = mOf ms i
        · rw [e, k1, ← e]
          have := hw i h1
          rw [← e] at *
          omega
        · have e2 : t = 1 - mOf ms i := by rcases h2 i h1 with q | q <;> omega
          rw [e2, k2]
          exact hroom
      have ih := fit_moves hw (F := F) (b := b) k (flipL ms i) (fun c => if c = i then true else mv c) (by rw [flipL_length]; exact hl) (by rw [hf]; exact h2.flip h1) ht hn
      rw [hf] at ih
      exact ih
theorem right_two {n : Nat} {qs : List Int} (hq : qs.length = n) (h2 : twoM n (mOf qs)) : rightP n qs 2 = true := rightP_mk hq (by omega) (by omega) (fun p hp => by
  obtain ⟨i, hi, rfl⟩ := List.getElem_of_mem hp
  have := h2 i (by omega)
  unfold mOf at this
  rw [List.getD_eq_getElem?_getD, List.getElem?_eq_getElem hi] at this
  simp only [Option.getD_some] at this
  omega)
theorem two_right {n : Nat} {qs : List Int} (h : rightP n qs 2 = true) : qs.length = n ∧ twoM n (mOf qs) := by
  obtain ⟨r1, _, r3⟩ := rightP_t h
  refine ⟨r1, fun i hi => ?_⟩
  have := r3 (qs.getD i 0) (by rw [List.getD_eq_getElem?_getD, List.getElem?_eq_getElem (show i < qs.length by omega)]; exact List.getElem_mem _)
  show qs.getD i 0 = 0 ∨ qs.getD i 0 = 1
  omega
theorem wsF_pos {ws : List Int} (hw : ∀ x ∈ ws, 1 ≤ x ∧ x ≤ 1099511627776) : ∀ i, i < ws.length → 0 ≤ wsF ws i := fun i hi => by
  have := hw _ (List.getElem_mem hi)
  unfold wsF
  rw [List.getD_eq_getElem?_getD, List.getElem?_eq_getElem hi]
  show 0 ≤ ws[i]
  omega
/-- Behind a pass over right parts: right parts, that fit where they did, and cut less by what it says. -/
theorem pass_right {ws : List Int} {F : Nat → Nat → Int} (h : Tab ws.length F) (hn : ws.length ≤ 1000) (hw : ∀ x ∈ ws, 1 ≤ x ∧ x ≤ 1099511627776) (b0 b1 : Int) {ms : List Int} (hr : rightP ws.length ms 2 = true) :
    rightP ws.length (passP ms (movesD ws F b0 b1 ms)) 2 = true ∧ (∀ t, t = 0 ∨ t = 1 → hvM ws.length (wsF ws) (mOf ms) t ≤ bF b0 b1 t → hvM ws.length (wsF ws) (mOf (passP ms (movesD ws F b0 b1 ms))) t ≤ bF b0 b1 t) := by
  obtain ⟨hl, h2⟩ := two_right hr
  have hx : ∀ x ∈ movesD ws F b0 b1 ms, x.1 < ws.length := fun x hx => ((movesD_in h hn b0 b1 ms).2.1 x hx).2.1
  refine ⟨right_two (by rw [passP_length]; exact hl) (behindL_two _ ms hl h2 (fun x hx' => hx x (List.mem_of_mem_take hx'))), fun t ht hf => ?_⟩
  have hm : movesD ws F b0 b1 ms = [] ∨ movesD ws F b0 b1 ms = movD ws F (bF b0 b1) ms := by
    unfold movesD
    split
    · exact .inl rfl
    · exact .inr rfl
  rcases hm with e | e
  · rw [e]; simpa [passP, behindL] using hf
  · rw [e]
    unfold passP
    have k1 := (passS_few (L := movD ws F (bF b0 b1) ms)).1
    have hL := movesM_length ws.length F (wsF ws) (bF b0 b1) ws.length (mOf ms) (fun _ => false)
    have htk := movesM_take ws.length F (wsF ws) (bF b0 b1) ws.length (passS (movD ws F (bF b0 b1) ms)).few (mOf ms) (fun _ => false) (Nat.le_trans k1 hL)
    have := fit_moves (F := F) (wsF_pos hw) (b := bF b0 b1) (t := t) (passS (movD ws F (bF b0 b1) ms)).few ms (fun _ => false) hl h2 ht hf
    rw [← htk] at this
    exact this
theorem cutF_E {n : Nat} {F : Nat → Nat → Int} {ms : List Int} (h : rightP n ms 2 = true) : cutF n F ms 2 = cutE n F ms := if_pos h
theorem ends_right {ws : List Int} {F : Nat → Nat → Int} (h : Tab ws.length F) (hn : ws.length ≤ 1000) (hw : ∀ x ∈ ws, 1 ≤ x ∧ x ≤ 1099511627776) {b0 b1 : Int} {ms q : List Int} (hE : Ends ws F b0 b1 ms q) (hr : rightP ws.length ms 2 = true) :
    rightP ws.length q 2 = true ∧ (∀ t, t = 0 ∨ t = 1 → hvM ws.length (wsF ws) (mOf ms) t ≤ bF b0 b1 t → hvM ws.length (wsF ws) (mOf q) t ≤ bF b0 b1 t) ∧ cutE ws.length F q ≤ cutE ws.length F (passP ms (movesD ws F b0 b1 ms)) ∧ cutE ws.length F q ≤ cutE ws.length F ms := by
  induction hE with
  | stop h0 => exact ⟨hr, fun t _ hf => hf, by rw [passP_zero h0]; exact Int.le_refl _, Int.le_refl _⟩
  | @go ms q h0 hE ih =>
    obtain ⟨k1, k2⟩ := pass_right h hn hw b0 b1 hr
    obtain ⟨j1, j2, j3, j4⟩ := ih k1
    have hc := pass_cut h hn b0 b1 ms
    have hp := (passS_few (L := movesD ws F b0 b1 ms)).2.1
    exact ⟨j1, fun t ht hf => j2 t ht (k2 t ht hf), j4, by omega⟩
theorem wrong_none {ws : List Int} {F : Nat → Nat → Int} {b0 b1 : Int} {ms : List Int} (h : rightP ws.length ms 2 = false) : movesD ws F b0 b1 ms = [] := by
  unfold movesD
  rw [if_pos (.inr h)]
/-- What the two parts weigh. -/
theorem wtsT_hv {ws ms : List Int} (hl : ms.length = ws.length) (h2 : twoM ws.length (mOf ms)) {t : Nat} (ht : t < 2) : wtsT ws ms ws.length t = hvM ws.length (wsF ws) (mOf ms) (t : Int) := by
  have key : ∀ j, j ≤ ws.length → wtsT ws ms j t = sumTo j (fun b => if mOf ms b = (t : Int) then wsF ws b else 0) := fun j => by
    induction j with
    | zero => intro _; simp [wtsT, sumTo]
    | succ j ih =>
      intro hj
      have e : sumTo (j + 1) (fun b => if mOf ms b = (t : Int) then wsF ws b else 0) = sumTo j (fun b => if mOf ms b = (t : Int) then wsF ws b else 0) + (if mOf ms j = (t : Int) then wsF ws j else 0) := rfl
      rw [e, ← ih (by omega)]
      have hm := h2 j (by omega)
      unfold mOf at hm ⊢
      simp only [wtsT, upd]
      by_cases q : ms.getD j 0 = (t : Int)
      · rw [if_pos (by omega), if_pos q, show (ms.getD j 0).toNat = t by omega]
        rfl
      · rw [if_neg (by omega), if_neg q]
        omega
  exact key _ (Nat.le_refl _)
end Go.Proofs.Ytjpgkocffceeoaa.L13

namespace Go.Proofs.Ytjpgkocffceeoaa.L13
open Go.RowKit Go.Shelf Rk

/-- What lies while it is looked at. -/
structure FlR (w : World) (c0 c1 : Int) (g nb : Nat) (ws : List Int) (F : Nat → Nat → Int) (n : Nat) (a2 : Option Addr) (b2 off2 : Nat) (ms : List Int) (pa : Option Addr) (pb : Nat) (ps : List Int) (qa : Option Addr) (qb : Nat) (qs : List Int) (W : World) : Prop where
  k : WkR w c0 c1 g nb ws F W
  part : IntsAt .i64 W.heap.size W a2 b2 off2 n ms
  p : IntsAt .i64 W.heap.size W pa pb 0 n ps
  q : IntsAt .i64 W.heap.size W qa qb 0 n qs
theorem FlR.on {w W W' : World} {c0 c1 : Int} {g nb : Nat} {ws : List Int} {F : Nat → Nat → Int} {n : Nat} {a2 : Option Addr} {b2 off2 : Nat} {ms : List Int} {pa : Option Addr} {pb : Nat} {ps : List Int} {qa : Option Addr} {qb : Nat} {qs : List Int} (h : FlR w c0 c1 g nb ws F n a2 b2 off2 ms pa pb ps qa qb qs W) (hb : Below W.heap.size W W') : FlR w c0 c1 g nb ws F n a2 b2 off2 ms pa pb ps qa qb qs W' :=
  ⟨h.k.on hb, (h.part.kept hb (Nat.le_refl _)).mono hb.size, (h.p.kept hb (Nat.le_refl _)).mono hb.size, (h.q.kept hb (Nat.le_refl _)).mono hb.size⟩
set_option maxRecDepth 100000 in
set_option maxHeartbeats 8000000 in
theorem walk_RefineFalls (a0 : Option Addr) (len0 cap0 : Nat) (z0 : List Int) (a1 : Option Addr) (len1 cap1 : Nat) (z1 : List RopV) (a2 : Option Addr) (len2 cap2 : Nat) (z2 : List Int) (c0 c1 : Int) (w : World) (w0 : IsRow .i64 w a0 len0 cap0 z0) (w1 : IsRops w a1 len1 cap1 z1) (w2 : IsRow .i64 w a2 len2 cap2 z2) (w3 : (Lit.int .i64 c0).wf = true) (w3' : (Lit.int .i64 c1).wf = true) :
    Calls Try.prog 6 #[.slice a0 len0 cap0, .slice a1 len1 cap1, .slice a2 len2 cap2, .agg #[.int .i64 c0, .int .i64 c1]] w fun e w' => e = .returned (.bool true) ∧ Below w.heap.size w w' := by
  obtain ⟨b0, off0, zs, hi0, hn0⟩ := IsRow.zz w0
  obtain ⟨_, b1, off1, hi1⟩ := w1
  obtain ⟨b2, off2, ms, hi2, hn2⟩ := IsRow.zz w2
  have hb1 : Below w.heap.size w (w.alloc (.cells #[.int .i64 c0, .int .i64 c1] 46)) := (Below.refl _ w).alloc (Nat.le_refl _) _
  have hbx : (w.alloc (.cells #[.int .i64 c0, .int .i64 c1] 46)).heap[w.heap.size]? = some (.cells #[.int .i64 c0, .int .i64 c1] 46 (0, 0)) := heap_new (w := w) _ rfl
  have H0 := Lib.hid (hi0.kept hb1 (Nat.le_refl _))
  have HN0 := Lib.hid hn0
  have H1 := Lib.hid (hi1.kept hb1 (Nat.le_refl _))
  have H2 := Lib.hid (hi2.kept hb1 (Nat.le_refl _))
  have HN2 := Lib.hid hn2
  have HBX := Lib.hid hbx
  have HBw := Lib.hid hb1
  obtain rfl := hi0.length
  obtain rfl := hi2.length
  clear w0 w2 hi0 hn0 hi1 hi2 hn2 hb1 hbx
  go_enter Try.func6, Try.ntmps6
  go_upto_region 1 with fail
  generalize (w.alloc (.cells #[.int .i64 c0, .int .i64 c1] 46)) = x0 at *
  go_wp2_with fail
  refine (alive_any _).mono ?_
  rintro e x1 ⟨rfl, hB1⟩
  have zb := HBw.out.size
  have HB1 := Lib.hid hB1
  have HBd := Lib.hid (build_any (cap0 := cap0) (cap1 := cap1) ((H0.out.kept hB1 (by omega)).mono (by have := hB1.size; omega)) HN0.out ((H1.out.kept hB1 (by omega)).mono (by have := hB1.size; omega)))
  have z1s := hB1.size
  clear hB1
  go_wp2_with fail
  refine HBd.out.mono ?_
  rintro e x2 ⟨hB, hc⟩
  have HB2 := Lib.hid (HBw.out.trans ((HB1.out.trans (hB.mono z1s)).mono zb))
  clear HBd
  rcases hc with ⟨_, rfl⟩ | ⟨⟨hl30, _⟩, g, nb, lo, Bx, X, rfl, hR, _, _⟩
  · have HB3 := Lib.hid (HB2.out.alloc HB2.out.size (.cells #[.slice none 0 0, .slice none 0 0] 29))
    clear hB
    go_wp2
    go_ret
    exact ⟨by simp, HB3.out⟩
  have hR' := both_base hR HB1.out
  have hal := (Below.refl x2.heap.size x2).alloc (Nat.le_refl _) (.cells #[.slice X.wa zs.length X.wc, .slice X.ra zs.length X.rc] 29)
  have hG := (hR'.on hal).one
  have hbt := HB2.out.trans (hal.mono HB2.out.size)
  have hbx0 : Below x0.heap.size x0 (x2.alloc (.cells #[.slice X.wa zs.length X.wc, .slice X.ra zs.length X.rc] 29)) := (HB1.out.trans (hB.mono z1s)).trans (hal.mono (by have := hB.size; omega))
  have HK3 : Hid (WkR w c0 c1 g nb zs (joins zs.length noTab z1) (x2.alloc (.cells #[.slice X.wa zs.length X.wc, .slice X.ra zs.length X.rc] 29))) := Lib.hid ⟨heap_below HBX.out hbx0 (heap_lt HBX.out), hG, hbt⟩
  have HP3 := Lib.hid ((H2.out.kept hbx0 zb).mono hbt.size)
  clear hR hR' hal hG hbt hbx0 hB HB2 HB1 HBX H0 H1 HN0
  unfold XD.val
  go_upto_region 4 with fail
  revert HK3 HP3
  generalize x2.alloc (.cells #[.slice X.wa zs.length X.wc, .slice X.ra zs.length X.rc] 29) = x3
  intro HK3 HP3
  generalize joins zs.length noTab z1 = F at *
  by_cases hms : 60 < ms.length
  · have hd : decide (60 < (ms.length : Int)) = true := by simp; omega
    have HB3 := Lib.hid HK3.out.below
    clear hms
    go_wp2
    go_ret
    exact ⟨rfl, HB3.out⟩
  have hd : decide (60 < (ms.length : Int)) = false := by simp; omega
  obtain ⟨i0, hi, hz0, hz1, hz2⟩ := info_parts Gc.Try.infoInt
  have HI := Lib.hid hi
  have HZ0 := Lib.hid hz0
  have HZ1 := Lib.hid hz1
  have HZ2 := Lib.hid hz2
  have HAl := Lib.hid ((Below.refl x3.heap.size x3).alloc (Nat.le_refl _) (.cells #[] 3))
  clear hi hz0 hz1 hz2
  go_upto_region 6 with fail
  go_upto_region 7 with (at_builtin; refine wpList_append_ints _ rfl _ _ 24 rfl x3.heap.size 3 i0 (.int .i64 0) 8 Try.underlying24 HI.out HZ0.out HZ1.out HZ2.out rfl (.slice (some ⟨x3.heap.size, 0, none⟩) 0 0) 0 [] rfl (World.ownsRow_made x3 #[] 0 (Nat.le_refl _) (Nat.zero_le _) rfl) .i64 x3.heap.size x3.heap.size x3 a2 b2 off2 ms.length cap2 ms rfl HN2.out HP3.out HAl.out (Nat.le_refl _) (by unfold maxLen; omega) (by omega) (by simp) ?_; intro v' x4 hown hb6; rw [List.nil_append, Nat.zero_add] at hown; obtain ⟨na, nc, nk, rfl, hna, hnk, hrow⟩ := own_row hown rfl; have HN4 := Lib.hid (And.intro hna hrow); have HB4 := Lib.hid (HAl.out.trans hb6); clear hown hb6 hrow hna)
  have HK4 := Lib.hid (HK3.out.on HB4.out)
  have HP4 := Lib.hid ((HP3.out.kept HB4.out (Nat.le_refl _)).mono HB4.out.size)
  have HW4 : Hid (IntsAt .i64 x4.heap.size x4 na nk 0 ms.length ms) := Lib.hid ⟨HN4.out.1, rfl, by unfold maxLen; omega, by
    by_cases e : ms.length = 0
    · exact .inl e
    · exact .inr (HN4.out.2.lt (by omega)), fun c hc => by rw [Nat.zero_add]; exact HN4.out.2.cell hc, HP3.out.fits⟩
  clear HK3 HP3 HN4 HB4 HAl
  have k0 := heap_cell HK4.out.box (i := 0) rfl
  have k1 := heap_cell HK4.out.box (i := 1) rfl
  simp only [List.getElem_toArray, List.getElem_cons_zero, List.getElem_cons_succ] at k0 k1
  have HTab := Lib.hid HK4.out.one.tab
  have HWs := Lib.hid HK4.out.one.wts
  obtain ⟨L, hL⟩ : ∃ L, movesD zs F c0 c1 ms = L := ⟨_, rfl⟩
  have C1 := Lib.hid (pass_any (cap := cap2) HK4.out.one (by omega) HP4.out HN2.out (by omega) c0 c1)
  rw [hL] at C1
  have HL := Lib.hid hL
  clear hL
  go_wp2_with fail
  refine C1.out.mono ?_
  rintro e x5 ⟨pa, pb, pc, rfl, hp, _, hpn, hb⟩
  have HK5 := Lib.hid (HK4.out.on hb)
  have HP5 := Lib.hid ((HP4.out.kept hb (Nat.le_refl _)).mono hb.size)
  have HW5 := Lib.hid ((HW4.out.kept hb (Nat.le_refl _)).mono hb.size)
  have HQ5 := Lib.hid hp
  clear hp hb C1 HK4 HP4 HW4 k0 k1
  have k0 := heap_cell HK5.out.box (i := 0) rfl
  have k1 := heap_cell HK5.out.box (i := 1) rfl
  simp only [List.getElem_toArray, List.getElem_cons_zero, List.getElem_cons_succ] at k0 k1
  have C2 := Lib.hid (refine_any (cap := cap2) HK5.out.one (by omega) HP5.out HN2.out (by omega) c0 c1)
  go_wp2_with fail
  refine C2.out.mono ?_
  rintro e x6 ⟨qa, qb, qc, q, rfl, hE, hq, _, hqn, hb⟩
  have HE := Lib.hid hE
  have HFl : Hid (FlR w c0 c1 g nb zs F ms.length a2 b2 off2 ms pa pb (passP ms L) qa qb q x6) := Lib.hid ⟨HK5.out.on hb, (HP5.out.kept hb (Nat.le_refl _)).mono hb.size, (HQ5.out.kept hb (Nat.le_refl _)).mono hb.size, hq⟩
  have HS := Lib.hid (sameints_any (cap := nc) (cap' := cap2) ((HW5.out.kept hb (Nat.le_refl _)).mono hb.size) HFl.out.part)
  rw [decide_eq_true rfl] at HS
  have HQn := Lib.hid hqn
  clear hE hq hb C2 HK5 HP5 HW5 HQ5 k0 k1 hqn hpn
  go_wp2_with fail
  refine HS.out.mono ?_
  rintro e x7 ⟨rfl, hb⟩
  have HF7 := Lib.hid (HFl.out.on hb)
  clear hb HS HFl
  have C3 := Lib.hid (cright_any (cap := cap2) HF7.out.k.one HF7.out.part (Nat.le_refl _) 2)
  cases hr : rightP zs.length ms 2 with
  | false =>
    rw [hr] at C3
    have hL0 : L = [] := by rw [← HL.out]; exact wrong_none hr
    have hq0 : q = ms := Ends.one HE.out (Ends.stop (by rw [HL.out, hL0]; rfl))
    subst hL0 hq0
    go_wp2_with fail
    refine C3.out.mono ?_
    rintro e x8 ⟨rfl, hb⟩
    have HF8 := Lib.hid (HF7.out.on hb)
    have HS := Lib.hid (sameints_any (cap := pc) (cap' := cap2) HF8.out.p HF8.out.part)
    rw [show passP q [] = q from rfl, decide_eq_true rfl] at HS
    clear hb C3 HF7
    have hm0 : (passS []).most = 0 := rfl
    rw [hm0]
    go_wp2_with fail
    refine HS.out.mono ?_
    rintro e x9 ⟨rfl, hb⟩
    have HF9 := Lib.hid (HF8.out.on hb)
    have HS2 := Lib.hid (sameints_any (cap := qc) (cap' := cap2) HF9.out.q HF9.out.part)
    rw [decide_eq_true rfl] at HS2
    clear hb HS HF8
    go_wp2_with fail
    refine HS2.out.mono ?_
    rintro e x10 ⟨rfl, hb⟩
    have HB10 := Lib.hid (HF9.out.on hb).k.below
    clear hb HS2 HF9
    go_wp2
    go_ret
    exact ⟨rfl, HB10.out⟩
  | true =>
    rw [hr] at C3
    obtain ⟨hpr, hpf⟩ := pass_right HTab.out (by omega) HWs.out c0 c1 hr
    obtain ⟨hqr, hqf, hqc, _⟩ := ends_right HTab.out (by omega) HWs.out HE.out hr
    have hct := pass_cut HTab.out (by omega) c0 c1 ms
    have hmo := (passS_few (L := L)).2.1
    have hlast := HE.out.last
    rw [HL.out] at hpr hpf hqc hct
    rw [← cutF_E hqr, ← cutF_E hpr] at hqc
    rw [← cutF_E hr, ← cutF_E hpr] at hct
    have hk1 := cutF_bd HTab.out (by omega) ms 2
    have hk2 := cutF_bd HTab.out (by omega) (passP ms L) 2
    have hml := (two_right hr)
    have hpl := (two_right hpr)
    have hql := (two_right hqr)
    have HWA : Hid (∀ t : Nat, t < 2 → wtsT zs ms zs.length t ≤ bF c0 c1 t → wtsT zs (passP ms L) zs.length t ≤ bF c0 c1 t ∧ wtsT zs q zs.length t ≤ bF c0 c1 t) := Lib.hid (fun t ht => by
      rw [wtsT_hv hml.1 hml.2 ht, wtsT_hv hpl.1 hpl.2 ht, wtsT_hv hql.1 hql.2 ht]
      exact fun hf => ⟨hpf t (by omega) hf, hqf t (by omega) hf⟩)
    have HLa := Lib.hid hlast
    have HPR := Lib.hid hpr
    have HQR := Lib.hid hqr
    have HMR := Lib.hid hr
    have hqlen : q.length = ms.length := HE.out.length
    have HQlen := Lib.hid hqlen
    obtain ⟨mo, hmoe⟩ : ∃ x, (passS L).most = x := ⟨_, rfl⟩
    rw [hmoe] at hmo hct ⊢
    obtain ⟨k1, hk1e⟩ : ∃ x, cutF zs.length F ms 2 = x := ⟨_, rfl⟩
    obtain ⟨k2, hk2e⟩ : ∃ x, cutF zs.length F (passP ms L) 2 = x := ⟨_, rfl⟩
    obtain ⟨k3, hk3e⟩ : ∃ x, cutF zs.length F q 2 = x := ⟨_, rfl⟩
    rw [hk1e] at hk1 hct
    rw [hk2e] at hk2 hct hqc
    rw [hk3e] at hqc
    have HK1 := Lib.hid hk1e
    have HK2 := Lib.hid hk2e
    have HK3 := Lib.hid hk3e
    have hw1 : IntKind.i64.wrap (k1 - k2) = k1 - k2 := IntWalk.i64_in _ (by omega)
    have hd1 : decide (mo < 0) = false := by simpa using hmo
    have hd2 : decide (k2 < k3) = false := by simpa using hqc
    have hne : (k1 - k2 != mo) = false := by simpa using hct
    clear hpr hpf hqr hqf hqc hct hmo hlast hml hpl hql hqlen hmoe hk1e hk2e hk3e hk1 hk2 hr
    generalize passP ms L = ps at *
    go_wp2_with fail
    refine C3.out.mono ?_
    rintro e x8 ⟨rfl, hb⟩
    have HF8 := Lib.hid (HF7.out.on hb)
    have C := Lib.hid (cright_any (cap := pc) HF8.out.k.one HF8.out.p (Nat.le_refl _) 2)
    rw [HPR.out] at C
    clear hb C3 HF7
    go_wp2_with fail
    refine C.out.mono ?_
    rintro e x9 ⟨rfl, hb⟩
    have HF9 := Lib.hid (HF8.out.on hb)
    clear C hb HF8
    have C := Lib.hid (cright_any (cap := qc) HF9.out.k.one HF9.out.q (Nat.le_refl _) 2)
    rw [HQR.out] at C
    go_wp2_with fail
    refine C.out.mono ?_
    rintro e x10 ⟨rfl, hb⟩
    have HF10 := Lib.hid (HF9.out.on hb)
    clear C hb HF9
    have C := Lib.hid (cut_any (cap := cap2) HF10.out.k.one (by omega) HF10.out.part 2)
    rw [HK1.out] at C
    go_wp2_with fail
    refine C.out.mono ?_
    rintro e x11 ⟨rfl, hb⟩
    have HF11 := Lib.hid (HF10.out.on hb)
    clear C hb HF10
    have C := Lib.hid (cut_any (cap := pc) HF11.out.k.one (by omega) HF11.out.p 2)
    rw [HK2.out] at C
    go_wp2_with fail
    refine C.out.mono ?_
    rintro e x12 ⟨rfl, hb⟩
    have HF12 := Lib.hid (HF11.out.on hb)
    clear C hb HF11
    have C := Lib.hid (cut_any (cap := qc) HF12.out.k.one (by omega) HF12.out.q 2)
    rw [HK3.out] at C
    go_wp2_with fail
    refine C.out.mono ?_
    rintro e x13 ⟨rfl, hb⟩
    have HF13 := Lib.hid (HF12.out.on hb)
    clear C hb HF12
    have C := Lib.hid (cut_any (cap := pc) HF13.out.k.one (by omega) HF13.out.p 2)
    rw [HK2.out] at C
    go_wp2_with fail
    refine C.out.mono ?_
    rintro e x14 ⟨rfl, hb⟩
    have HF14 := Lib.hid (HF13.out.on hb)
    clear C hb HF13
    have C := Lib.hid (weights_any (cap := cap2) HF14.out.k.one HF14.out.part 2)
    go_wp2_with fail
    refine C.out.mono ?_
    rintro e x15 (⟨h0, _⟩ | ⟨_, wa, rfl, hWa⟩)
    · rw [HMR.out] at h0; cases h0
    have HF15 := Lib.hid (HF14.out.on hWa.below)
    have HA15 := Lib.hid hWa
    clear C HF14 hWa
    have C := Lib.hid (weights_any (cap := pc) HF15.out.k.one HF15.out.p 2)
    go_wp2_with fail
    refine C.out.mono ?_
    rintro e x16 (⟨h0, _⟩ | ⟨_, wb, rfl, hWb⟩)
    · rw [HPR.out] at h0; cases h0
    have HF16 := Lib.hid (HF15.out.on hWb.below)
    have HA16 := Lib.hid (HA15.out.on hWb.below)
    have HB16 := Lib.hid hWb
    clear C HF15 HA15 hWb
    have C := Lib.hid (weights_any (cap := qc) HF16.out.k.one HF16.out.q 2)
    go_wp2_with fail
    refine C.out.mono ?_
    rintro e x17 (⟨h0, _⟩ | ⟨_, wc, rfl, hWc⟩)
    · rw [HQR.out] at h0; cases h0
    have HF17 := Lib.hid (HF16.out.on hWc.below)
    have HA17 := Lib.hid (HA16.out.on hWc.below)
    have HB17 := Lib.hid (HB16.out.on hWc.below)
    have HC17 := Lib.hid hWc
    clear C HF16 HA16 HB16 hWc
    simp only [show (2 : Int).toNat = 2 from rfl] at HA17 HB17 HC17 ⊢
    go_wp2
    go_loopw [115] (fun i wr => ∃ j : Nat, j ≤ 2 ∧ i = .int .i64 j ∧ Hid (∃ n, wr = x17.drewN n)) (fun i _ => 2 - (intOf i).toNat)
    case atStart => exact ⟨0, by decide, rfl, Lib.hid ⟨0, rfl⟩⟩
    case round =>
      obtain ⟨j, hj, rfl, HX⟩ := hrel
      by_cases hlt : j < 2
      · obtain ⟨nd, rfl⟩ := HX.out
        have HF := Lib.hid (HF17.out.on (show Below x17.heap.size x17 (x17.drewN nd) from ⟨rfl, rfl, rfl, Nat.le_refl _, fun _ _ => rfl⟩))
        have e1 : x17.cell? ⟨wa, j, none⟩ = some (.int .i64 (wtsT zs ms zs.length j)) := heap_cell HA17.out.row (rowC_at _ hlt)
        have e2 : x17.cell? ⟨wb, j, none⟩ = some (.int .i64 (wtsT zs ps zs.length j)) := heap_cell HB17.out.row (rowC_at _ hlt)
        have e3 : x17.cell? ⟨wc, j, none⟩ = some (.int .i64 (wtsT zs q zs.length j)) := heap_cell HC17.out.row (rowC_at _ hlt)
        have e4 : x17.cell? ⟨w.heap.size, j, none⟩ = some (.int .i64 (bF c0 c1 j)) := heap_cell HF17.out.k.box (by rcases (by omega : j = 0 ∨ j = 1) with rfl | rfl <;> rfl)
        have hw := HWA.out j hlt
        have hge : decide ((2 : Int) ≤ (j : Int)) = false := by simp; omega
        have hi0 : decide ((j : Int) < 0) = false := by simp
        generalize wtsT zs ms zs.length j = v1 at *
        generalize wtsT zs ps zs.length j = v2 at *
        generalize wtsT zs q zs.length j = v3 at *
        obtain ⟨bv, hbv⟩ : ∃ x, bF c0 c1 (j : Int) = x := ⟨_, rfl⟩
        rw [hbv] at hw e4
        have hlt2 : (j : Int) < 2 := by omega
        have hii : (0 : Int) ≤ (j : Int) := by omega
        by_cases hle : v1 ≤ bv
        · obtain ⟨h2, h3⟩ := hw hle
          have d1 : decide (v1 ≤ bv) = true := by simpa using hle
          have d2 : decide (bv < v2) = false := by simpa using h2
          have d3 : decide (bv < v3) = false := by simpa using h3
          clear hw hle h2 h3 hbv
          go_wp2
          go_quiet (fail)
          go_wp2
          go_roundw
          case rel => exact ⟨j + 1, by omega, by go_num, Lib.hid ⟨_, rfl⟩⟩
          case measure => simp [intOf]; omega
        · have d1 : decide (v1 ≤ bv) = false := by simpa using hle
          clear hw hle hbv
          go_wp2
          go_quiet (fail)
          go_wp2
          go_roundw
          case rel => exact ⟨j + 1, by omega, by go_num, Lib.hid ⟨_, rfl⟩⟩
          case measure => simp [intOf]; omega
      · obtain rfl : j = 2 := by omega
        obtain ⟨nd, rfl⟩ := HX.out
        have HF := Lib.hid (HF17.out.on (show Below x17.heap.size x17 (x17.drewN nd) from ⟨rfl, rfl, rfl, Nat.le_refl _, fun _ _ => rfl⟩))
        clear HF17 HA17 HB17 HC17
        generalize x17.drewN nd = x18 at *
        have k0 := heap_cell HF.out.k.box (i := 0) rfl
        have k1 := heap_cell HF.out.k.box (i := 1) rfl
        simp only [List.getElem_toArray, List.getElem_cons_zero, List.getElem_cons_succ] at k0 k1
        have C := Lib.hid (pass_any (cap := qc) HF.out.k.one (by omega) (by have := HF.out.q; rw [HQlen.out.symm] at this; exact this) (fun e => by rw [HQlen.out]; exact HQn.out e) (by rw [HQlen.out]; omega) c0 c1)
        rw [HQlen.out] at C
        go_wp2_with fail
        refine C.out.mono ?_
        rintro e x19 ⟨na', nb', nc', rfl, _, _, _, hb⟩
        have HB := Lib.hid (HF.out.on hb).k.below
        rw [HLa.out]
        clear hb C HF k0 k1
        go_wp2
        go_ret
        exact ⟨rfl, HB.out⟩
end Go.Proofs.Ytjpgkocffceeoaa.L13
