/- SectionPacks: the walk and the row's step. -/
import Derived.Test.YtnkhpmpoemodiaaSeN
import Derived.Test.YtnkhpmpoemodiaaSeQ
import Derived.Deep.RegionHeld3
import Derived.Test.YtnkhpmpoemodiaaRows
import Derived.ShutString
import Derived.ChangeOld
import Derived.Below
set_option linter.unusedVariables false
set_option linter.unusedSectionVars false
set_option linter.unusedSimpArgs false
namespace Go.Proofs.Ytnkhpmpoemodiaa.Se
open Go.RowKit Go.Shelf

theorem and_15 (n : Int) : bits .and .i64 n 15 = n % 16 := by
  have h511 : (BitVec.ofInt 64 15).toNat = 2 ^ 4 - 1 := by decide
  have key : (BitVec.ofInt 64 n &&& BitVec.ofInt 64 15).toNat = (n % ((2 ^ 64 : Nat) : Int)).toNat % 2 ^ 4 := by
    rw [BitVec.toNat_and, BitVec.toNat_ofInt, h511, Nat.and_two_pow_sub_one_eq_mod]
  show IntKind.i64.wrap ((BitVec.ofInt 64 n &&& BitVec.ofInt 64 15).toNat : Nat) = n % 16
  rw [key, IntKind.wrap_i64]
  omega
/-- What is packed, or nothing, as bytes. -/
def PkB (M : List SecM) (n : Nat) (w : World) (e : Ending) (w' : World) : Prop :=
  ∃ a b c, e = .returned (.tuple #[.slice a n c, .int .i64 (packE M)]) ∧ Hid (IntsAt .u8 w'.heap.size w' a b 0 n (packI M) ∧ Below w.heap.size w w')
theorem pack_len_small {M : List SecM} (hl : M.length ≤ 300) (h : ∀ x ∈ M, x.body.length ≤ 100) : (packI M).length ≤ 40000 := by
  unfold packI
  split
  · rw [sealI_length]
    unfold innerI
    simp only [List.length_append]
    have h1 := heads_len M
    have h2 := bodies_len M h
    have h3 := putF_len M.length
    have h4 : signI.length = 4 := rfl
    omega
  · simp
theorem pack_bytes {w : World} {a : Option Addr} {b off len cap : Nat} {L : List SecV} (h : In1 w a len cap L b off) {n : Nat} (hn : (packI (secsM L)).length = n) : Calls Try.prog 34 #[.slice a len cap] w (PkB (secsM L) n w) := by
  have hl3 := h.len3
  have hml := h.ml
  refine (pack_any h.at_ (by omega) h.few).mono ?_
  rintro e w' ⟨a', c, g, rfl, hq⟩
  obtain ⟨h1, h2, h3⟩ := hq.out
  rw [hn]
  by_cases he : packE (secsM L) = 0
  · obtain ⟨rfl, rfl, h4, h5, h6⟩ := h3 he
    have hs := pack_len_small (M := secsM L) (by omega) h.small
    have hi := whole_ints h5 h6 (by unfold maxLen; omega)
    rw [hn] at hi
    exact ⟨_, g, _, rfl, Lib.hid ⟨hi, h1⟩⟩
  · obtain ⟨rfl, rfl⟩ := h2 he
    have hp : packI (secsM L) = [] := by unfold packI; rw [if_neg he]
    rw [hp] at hn
    subst hn
    exact ⟨none, 0, 0, rfl, Lib.hid ⟨by rw [hp]; exact ⟨.inl rfl, rfl, Nat.zero_le _, .inl rfl, fun i hi => absurd hi (Nat.not_lt_zero _), fun n hn => by simp at hn⟩, h1⟩⟩
theorem pack_fits {w : World} {a : Option Addr} {b off len cap : Nat} {L : List SecV} (h : In1 w a len cap L b off) : ∀ x ∈ packI (secsM L), (Lit.int .u8 x).wf = true := by
  have hl3 := h.len3
  have hml := h.ml
  unfold packI
  split
  · rename_i he
    have hl : (secsM L).length ≤ 255 := by
      unfold packE at he
      split at he
      · simp at he
      · omega
    have hin := inner_wf (M := secsM L) hl (fun x hx => by
      unfold secsM at hx
      obtain ⟨y, hy, rfl⟩ := List.mem_map.1 hx
      refine ⟨h.at_.rows.fits y hy, (h.at_.inner y hy).row.fits, ?_⟩
      have := h.small y.m (by unfold secsM; exact List.mem_map_of_mem hy)
      omega)
    intro x hx
    unfold sealI at hx
    rcases List.mem_append.1 hx with hx | hx
    · exact hin x hx
    · exact fixF_wf _ x hx
  · intro x hx; simp at hx
theorem rpack_bytes {w : World} {a : Option Addr} {b off len cap : Nat} {L : List SecV} (h : RowsAt encS fitS 2 w.heap.size w a b off len L) {w0 : World} {a0 : Option Addr} {cap0 b0 off0 : Nat} (h0 : In1 w0 a0 len cap0 L b0 off0) (hin : ∀ x ∈ L, SecIn w.heap.size w x) {n : Nat} (hn : (packI (secsM L)).length = n) : Calls Try.prog 35 #[.slice a len cap] w (PkB (secsM L) n w) := by
  have hl3 := h0.len3
  refine (rpack_any h hin (by omega) h0.few).mono ?_
  rintro e w' ⟨v, rfl, hq⟩
  obtain ⟨p, rfl, hp, hn2⟩ := gath_pc (b0 := 0) hq.out.1 (pack_fits h0)
  obtain ⟨a', cap', b', hv, _, _, _, hi⟩ := hq.out.1.ints rfl (pack_fits h0)
  rw [hn] at hv hi ⊢
  refine ⟨a', b', cap', by rw [hv], Lib.hid ⟨hi, hq.out.2⟩⟩
/-- What is found first among the first ones. -/
theorem find_take {M : List SecM} {k : Nat} {x : SecM} (hx : M[k]? = some x) (t : Int) : (M.take (k + 1)).find? (fun y => y.tag == t) = ((M.take k).find? (fun y => y.tag == t)).or (if x.tag == t then some x else none) := by
  obtain ⟨g1, g2⟩ := List.getElem?_eq_some_iff.1 hx
  rw [List.take_succ_eq_append_getElem g1, List.find?_append, g2]
  simp [List.find?_cons]
  split <;> simp_all
/-- As 'wpList_append_gath'; what is turned is its own row. -/
theorem wpList_append_gathP {P : Program} (w : World) {ops : Array Oper} {rest : List Oper} {o : Oper} {a : Act} {Q : Exit → Act → World → Prop} (hgd : o.guard = none) (s x : Operand) (t : TypeId)
    (ho : o.op = .call { callee := .builtin .append, args := #[s, x], argTypes := #[t, t] })
    (base : Nat) (e : TypeId) (i : TypeInfo) (z : Value) (size bytes : Nat) (ht : P.underlying t = some (.slice e)) (hi : P.info? e = some i) (hz : i.zero = some z)
    (hsize : i.size = size) (hby : i.bytes = bytes) (hzs : z.cells.size = size) (hsz : 0 < size)
    (v : Value) (n : Nat) (xs : List Value) (hs : a.eval s = v) (hown : Gath w base e size v n xs)
    (ad : Addr) (m c : Nat) (news : List Value) (hx : a.eval x = .slice (some ad) m c) (hl : news.length = m * size) (hnews : ∀ j u, news[j]? = some u → w.cell? (ad.add j) = some u) (h1 : ∀ u ∈ news, u.oneCell' = true)
    (hm : 0 < m) (h63 : n + m ≤ maxLen) (hbytes : (n + m) * bytes ≤ 140737488355328) (hbase : base ≤ w.heap.size)
    (h : ∀ v' w' row, w'.ownsRow base e size v' (n + m) (xs ++ news) → w.grownBy w' row → (∀ g, row = some g → v.ownBlock = some g ∧ base ≤ g) → wpList P ops Q rest (a.put o.dst v') w') : wpList P ops Q (o :: rest) a w := by
  rcases hown with ⟨rfl, rfl, ao, rfl⟩ | hown
  · refine wpList_append_grows w hgd s x t ho e i z size bytes ht hi hz hsize hby hzs hsz ao 0 0 [] hs (fun _ => ⟨rfl, rfl⟩) (by simp) (fun b _ j u hj => by simp at hj) ad m c news hx hl hnews h1 (by omega) h63 hbytes ?_
    intro v' w' h2 h3
    exact h v' w' none (ownsRow_base h2 hbase) h3 (fun k hk => by cases hk)
  · refine wpList_append_own w hgd s x t ho base e i z size bytes ht hi hz hsize hby hzs hsz v n xs hs hown ad m c news hx hl hnews h1 h63 hbytes hbase ?_
    intro v' w' h2 h3 _
    exact h v' w' _ h2 h3 (fun k hk => ⟨hk, (hown.lt k hk).1⟩)
def zP : Array Value := #[.string ⟨#[]⟩, .int .i64 0, .slice none 0 0, .slice none 0 0]
def zL : Array Value := #[.string ⟨#[]⟩, .string ⟨#[]⟩, .string ⟨#[]⟩, .int .i64 0, .int .i64 0]
def zE : Array Value := #[.string ⟨#[]⟩, .int .i64 0, .int .i64 0]
theorem own_lt_new (w : World) (o : Obj) : ∀ g, (Value.slice (some ⟨w.heap.size, 0, none⟩) 0 0).ownBlock = some g → g < (w.alloc o).heap.size := by
  intro g hg
  have : w.heap.size = g := by simpa [Value.ownBlock] using hg
  rw [World.size_alloc]
  omega
/-- What a loop has gathered so far. -/
structure PkL (w0 : World) (L : List SecV) (t : Int) (k : Nat) (all : Value) (ba : Option Addr) (bl bc : Nat) (th : Bool) (wr : World) : Prop where
  row : Gath wr w0.heap.size 5 1 all k (ivals .u8 ((tagsI L).take k))
  low : Below w0.heap.size w0 wr
  lt : ∀ g, all.ownBlock = some g → g < wr.heap.size
  th : th = (((secsM L).take k).find? (fun y => y.tag == t)).isSome
  bd : ∃ bb bo, IntsAt .u8 w0.heap.size w0 ba bb bo bl ((((secsM L).take k).find? (fun y => y.tag == t)).elim [] (·.body))
theorem gath_lt {w : World} {base : Nat} {e : TypeId} {v : Value} {n : Nat} {xs : List Value} (h : Gath w base e 1 v n xs) : ∀ g, v.ownBlock = some g → xs = [] ∨ g < w.heap.size := by
  intro g hg
  rcases h with ⟨_, h1, _⟩ | h
  · exact .inl h1
  · exact .inr (h.lt g hg).2
theorem ints_same {B : Nat} {w : World} {a : Option Addr} {b off len : Nat} {zs zs' : List Int} (h : IntsAt .u8 B w a b off len zs) (e : zs = zs') : IntsAt .u8 B w a b off len zs' := by subst e; exact h
set_option maxRecDepth 100000 in
set_option maxHeartbeats 4000000 in
theorem walk_SectionPacks (a : Option Addr) (len cap : Nat) (L : List SecV) (t most : Int) (w : World) (hi : IsSecs w a len cap L) (wt : (Lit.int .u8 t).wf = true) (wm : (Lit.int .i64 most).wf = true) :
    Calls Try.prog 7 #[.slice a len cap, .int .u8 t, .int .i64 most] w fun e w' => e = .returned (.bool true) ∧ Below w.heap.size w w' := by
  obtain ⟨b, off, hs⟩ := hi
  have HS := Lib.hid hs
  have hsm := hs.rows.small
  unfold maxLen at hsm
  have HAl := Lib.hid (alive_any w)
  clear hs wm
  go_enter Try.func7, Try.ntmps7
  go_wp2_with fail
  refine HAl.out.mono ?_
  rintro e w1 ⟨rfl, hb1⟩
  have HB1 := Lib.hid hb1
  have HFw := Lib.hid (few_any (HS.out.on hb1))
  obtain ⟨fw, hfw⟩ : ∃ fw, fewB (secsM L) = fw := ⟨_, rfl⟩
  rw [hfw] at HFw
  have HFE := Lib.hid hfw
  clear hb1 HAl hfw
  go_wp2_with fail
  refine HFw.out.mono ?_
  rintro e w2 ⟨rfl, hb2⟩
  have HB2 : Hid (Below w.heap.size w w2) := Lib.hid (HB1.out.trans (hb2.mono HB1.out.size))
  clear hb2 HB1 HFw
  cases fw with
  | false =>
    go_wp2
    go_ret
    exact ⟨rfl, HB2.out⟩
  | true =>
    have HIn : Hid (In1 w a len cap L b off) := Lib.hid (in1_of HS.out HFE.out)
    have hl300 := HIn.out.len3
    have HLL : Hid (L.length = len) := Lib.hid HIn.out.at_.rows.length
    obtain ⟨N, hN⟩ : ∃ N, (packI (secsM L)).length = N := ⟨_, rfl⟩
    obtain ⟨pe, hpe⟩ : ∃ pe, packE (secsM L) = pe := ⟨_, rfl⟩
    have HPk := Lib.hid (pack_bytes (HIn.out.on HB2.out) hN)
    have HNE := Lib.hid (And.intro hN hpe)
    clear HFE HS hN hpe
    go_wp2_with fail
    refine HPk.out.mono ?_
    rintro e w3 ⟨a3, b3, c3, rfl, HQ3⟩
    have HB3 : Hid (Below w.heap.size w w3) := Lib.hid (HB2.out.trans (HQ3.out.2.mono HB2.out.size))
    have HA := Lib.hid (as_any (cap := cap) (HIn.out.on HB3.out).at_.rows (by omega))
    rw [HNE.out.2]
    clear HPk HB2
    go_wp2_with fail
    refine HA.out.mono ?_
    rintro e w4 ⟨a4, b4, c4, rfl, HQ4⟩
    rw [HLL.out] at HQ4 ⊢
    have HB4 : Hid (Below w.heap.size w w4) := Lib.hid (HB3.out.trans (HQ4.out.2.mono HB3.out.size))
    have HR := Lib.hid (rpack_bytes (cap := c4) HQ4.out.1 HIn.out (HIn.out.on HB4.out).at_.inner HNE.out.1)
    clear HA HB3
    go_wp2_with fail
    refine HR.out.mono ?_
    rintro e w5 ⟨a5, b5, c5, rfl, HQ5⟩
    have HB5 : Hid (Below w.heap.size w w5) := Lib.hid (HB4.out.trans (HQ5.out.2.mono HB4.out.size))
    have HSm : Hid (Calls Try.prog 24 #[.slice a3 N c3, .slice a5 N c5] w5 fun e w' => e = .returned (.bool true) ∧ w5 = w') := Lib.hid (by
      have h := same_any ((HQ3.out.1.kept (HQ4.out.2.trans (HQ5.out.2.mono HQ4.out.2.size)) (Nat.le_refl _)) ) HQ5.out.1 c3 c5
      rw [show decide (packI (secsM L) = packI (secsM L)) = true by simp] at h
      exact h)
    have hpp : ((pe : Int) != (pe : Int)) = false := by simp
    rw [HNE.out.2]
    clear HR HB4 HQ3 HQ4 HQ5
    go_wp2_with fail
    refine HSm.out.mono ?_
    rintro e w6 ⟨rfl, rfl⟩
    clear HSm hpp
    have HX : Hid (∀ k, k < len → ∃ x, L[k]? = some x ∧ a = some ⟨b, off, none⟩ ∧ b < w.heap.size ∧ w.cell? ⟨b, off + k * 2, none⟩ = some (.int .u8 x.m.tag) ∧ w.cell? ⟨b, off + k * 2 + 1, none⟩ = some x.bv ∧ fitS x) := Lib.hid (fun k hk => sec_cells HIn.out.at_.rows hk)
    obtain ⟨i0, hi0, hz0, hz1, hz2⟩ := info_parts Try.infoU8
    have HI := Lib.hid hi0
    have HZ0 := Lib.hid hz0
    have HZ1 := Lib.hid hz1
    have HZ2 := Lib.hid hz2
    clear hi0 hz0 hz1 hz2
    have HP0 : Hid (PkL w L t 0 (.slice (some ⟨w5.heap.size, 0, none⟩) 0 0) none 0 0 false (w5.alloc (.cells #[] 5))) := Lib.hid ⟨.inl ⟨rfl, rfl, _, rfl⟩, HB5.out.alloc HB5.out.size _, own_lt_new _ _, rfl, 0, 0, .inl rfl, rfl, Nat.zero_le _, .inl rfl, fun i hi => absurd hi (Nat.not_lt_zero _), fun n hn => by simp at hn⟩
    go_wp2_with fail
    go_loopw [11, 12, 13, 47] (fun v bv tv i wr => ∃ (av : Value) (k bl bc : Nat) (ba : Option Addr) (th : Bool), av = v ∧ k ≤ len ∧ i = .int .i64 (k : Int) ∧ bv = .slice ba bl bc ∧ tv = .bool th ∧ Hid (PkL w L t k av ba bl bc th wr)) (fun _ _ _ i _ => len - (intOf i).toNat)
    case atStart => exact ⟨_, 0, 0, 0, none, false, rfl, Nat.zero_le _, rfl, rfl, rfl, HP0⟩
    case round =>
      obtain ⟨av, k, bl0, bc0, ba0, th, rfl, hk, rfl, rfl, rfl, HP⟩ := hrel
      clear HP0
      have hk0 : (0 : Int) ≤ (k : Int) := Int.natCast_nonneg k
      by_cases hk1 : k < len
      · obtain ⟨x, hx, ha, hb, e0, e1, hfx⟩ := HX.out k hk1
        have c0 := (HP.out.low.cell (p := ⟨b, off + k * 2, none⟩) hb).trans e0
        have c1 := (HP.out.low.cell (p := ⟨b, off + k * 2 + 1, none⟩) hb).trans e1
        have hmx : (secsM L)[k]? = some x.m := by unfold secsM; rw [List.getElem?_map, hx]; rfl
        have HFT := Lib.hid (find_take hmx t)
        have HTT : Hid ((tagsI L).take (k + 1) = (tagsI L).take k ++ [x.m.tag]) := Lib.hid (by
          have h1 : (tagsI L)[k]? = some x.m.tag := by unfold tagsI; rw [List.getElem?_map, hx]; rfl
          obtain ⟨g1, g2⟩ := List.getElem?_eq_some_iff.1 h1
          rw [List.take_succ_eq_append_getElem g1, g2])
        have HXi := Lib.hid (HIn.out.at_.inner x (List.mem_of_getElem? hx))
        have hkl : ((tagsI L).take k).length = k := by unfold tagsI; rw [List.length_take, List.length_map, HLL.out]; omega
        have HKL := Lib.hid hkl
        subst ha
        have hki : (k : Int) < (len : Int) := by omega
        unfold SecV.bv at c1
        obtain ⟨tx, htx⟩ : ∃ tx, x.m.tag = tx := ⟨_, rfl⟩
        obtain ⟨bl, hbl⟩ : ∃ bl, x.m.body.length = bl := ⟨_, rfl⟩
        rw [htx] at c0 HTT HFT
        rw [hbl] at c1
        have HBL := Lib.hid hbl
        have hzr := HP.out.low.size
        have HBX : Hid (((wr.alloc (.cells #[.int .u8 tx, .slice x.ba bl x.bc] 70)).alloc (.cells #[.int .u8 tx] 5)).heap[wr.heap.size]? = some (.cells #[.int .u8 tx, .slice x.ba bl x.bc] 70 (0, 0))) := Lib.hid (heap_alloc (heap_new _ rfl) _)
        have HNw : Hid (∀ j u, [Value.int .u8 tx][j]? = some u → ((wr.alloc (.cells #[.int .u8 tx, .slice x.ba bl x.bc] 70)).alloc (.cells #[.int .u8 tx] 5)).cell? ((⟨wr.heap.size + 1, 0, none⟩ : Addr).add j) = some u) := Lib.hid (new_cells2 wr _ [Value.int .u8 tx] 5)
        have d0 : (wr.alloc (.cells #[.int .u8 tx, .slice x.ba bl x.bc] 70)).cell? ⟨wr.heap.size, 0, none⟩ = some (.int .u8 tx) := heap_cell (heap_new _ rfl) rfl
        clear e0 e1 hx hfx hmx hkl htx hbl
        have HFT2 := HFT.out
        by_cases htt : tx = t
        · have hbe : (tx == t) = true := by simpa using htt
          have hbd : decide (tx = t) = true := by simpa using htt
          rw [if_pos hbe] at HFT2
          clear hbe hbd
          subst tx
          cases th with
          | true =>
            go_wp2_with (at_builtin; refine wpList_append_gathP _ rfl _ _ 45 rfl w.heap.size 5 i0 (.int .u8 0) 1 1 Try.underlying45 HI.out HZ0.out HZ1.out HZ2.out rfl (by decide) av k (ivals .u8 ((tagsI L).take k)) rfl ((HP.out.row.alloc _).alloc _) ⟨wr.heap.size + 1, 0, none⟩ 1 1 [.int .u8 t] rfl rfl HNw.out (fun u hu => by rw [List.mem_singleton.1 hu]; rfl) (by decide) (by unfold maxLen; omega) (by omega) (by simp; omega) ?_; intro v' w7 row hown hg hrow; have hne : ∀ g, row = some g → g < wr.heap.size := fun g e => HP.out.lt g (hrow g e).1; have HBX7 := Lib.hid (heap_kept HBX.out hg (fun e => absurd (hne _ e.symm) (Nat.lt_irrefl _))); have HV7 : Hid (Gath w7 w.heap.size 5 1 v' (k + 1) (ivals .u8 ((tagsI L).take (k + 1))) ∧ Below w.heap.size w w7 ∧ ∀ g, v'.ownBlock = some g → g < w7.heap.size) := Lib.hid ⟨by rw [HTT.out, ivals_snoc]; exact .inr hown, ((HP.out.low.alloc hzr _).alloc (by simp; omega) _).grown hg (by simp; omega) (fun g e => (hrow g e).2), fun g e => (hown.lt g e).2⟩; have d7 : w7.cell? ⟨wr.heap.size, 0, none⟩ = some (.int .u8 t) := heap_cell HBX7.out rfl; have d8 : w7.cell? ⟨wr.heap.size, 1, none⟩ = some (.slice x.ba bl x.bc) := heap_cell HBX7.out rfl; have hbw7 := heap_lt HBX7.out; clear hown hg hrow hne)
            have HN : Hid (PkL w L t (k + 1) v' ba0 bl0 bc0 true w7) := Lib.hid (by
              have h1 := HP.out.th
              have h2 := HP.out.bd
              cases hf : ((secsM L).take k).find? (fun y => y.tag == t) with
              | none => rw [hf] at h1; cases h1
              | some z =>
                rw [hf] at HFT2 h2
                exact ⟨HV7.out.1, HV7.out.2.1, HV7.out.2.2, by rw [HFT2]; rfl, by rw [HFT2]; exact h2⟩)
            clear HFT2
            go_roundw
            case rel => exact ⟨v', k + 1, bl0, bc0, ba0, true, rfl, by omega, by go_num, rfl, rfl, HN⟩
            case measure => simp [intOf]; omega
          | false =>
            go_wp2_with (at_builtin; refine wpList_append_gathP _ rfl _ _ 45 rfl w.heap.size 5 i0 (.int .u8 0) 1 1 Try.underlying45 HI.out HZ0.out HZ1.out HZ2.out rfl (by decide) av k (ivals .u8 ((tagsI L).take k)) rfl ((HP.out.row.alloc _).alloc _) ⟨wr.heap.size + 1, 0, none⟩ 1 1 [.int .u8 t] rfl rfl HNw.out (fun u hu => by rw [List.mem_singleton.1 hu]; rfl) (by decide) (by unfold maxLen; omega) (by omega) (by simp; omega) ?_; intro v' w7 row hown hg hrow; have hne : ∀ g, row = some g → g < wr.heap.size := fun g e => HP.out.lt g (hrow g e).1; have HBX7 := Lib.hid (heap_kept HBX.out hg (fun e => absurd (hne _ e.symm) (Nat.lt_irrefl _))); have HV7 : Hid (Gath w7 w.heap.size 5 1 v' (k + 1) (ivals .u8 ((tagsI L).take (k + 1))) ∧ Below w.heap.size w w7 ∧ ∀ g, v'.ownBlock = some g → g < w7.heap.size) := Lib.hid ⟨by rw [HTT.out, ivals_snoc]; exact .inr hown, ((HP.out.low.alloc hzr _).alloc (by simp; omega) _).grown hg (by simp; omega) (fun g e => (hrow g e).2), fun g e => (hown.lt g e).2⟩; have d7 : w7.cell? ⟨wr.heap.size, 0, none⟩ = some (.int .u8 t) := heap_cell HBX7.out rfl; have d8 : w7.cell? ⟨wr.heap.size, 1, none⟩ = some (.slice x.ba bl x.bc) := heap_cell HBX7.out rfl; have hbw7 := heap_lt HBX7.out; clear hown hg hrow hne)
            have HN : Hid (PkL w L t (k + 1) v' x.ba bl x.bc true w7) := Lib.hid (by
              have h1 := HP.out.th
              cases hf : ((secsM L).take k).find? (fun y => y.tag == t) with
              | some z => rw [hf] at h1; cases h1
              | none =>
                rw [hf] at HFT2
                have hr := HXi.out.row
                rw [HBL.out] at hr
                exact ⟨HV7.out.1, HV7.out.2.1, HV7.out.2.2, by rw [HFT2]; rfl, x.bb, x.bo, by rw [HFT2]; exact hr⟩)
            clear HFT2
            go_roundw
            case rel => exact ⟨v', k + 1, bl, x.bc, x.ba, true, rfl, by omega, by go_num, rfl, rfl, HN⟩
            case measure => simp [intOf]; omega
        · have hbe : (tx == t) = false := by simpa using htt
          have hbd : decide (tx = t) = false := by simpa using htt
          rw [if_neg (by simpa using htt), Option.or_none] at HFT2
          go_wp2_with (at_builtin; refine wpList_append_gathP _ rfl _ _ 45 rfl w.heap.size 5 i0 (.int .u8 0) 1 1 Try.underlying45 HI.out HZ0.out HZ1.out HZ2.out rfl (by decide) av k (ivals .u8 ((tagsI L).take k)) rfl ((HP.out.row.alloc _).alloc _) ⟨wr.heap.size + 1, 0, none⟩ 1 1 [.int .u8 tx] rfl rfl HNw.out (fun u hu => by rw [List.mem_singleton.1 hu]; rfl) (by decide) (by unfold maxLen; omega) (by omega) (by simp; omega) ?_; intro v' w7 row hown hg hrow; have hne : ∀ g, row = some g → g < wr.heap.size := fun g e => HP.out.lt g (hrow g e).1; have HBX7 := Lib.hid (heap_kept HBX.out hg (fun e => absurd (hne _ e.symm) (Nat.lt_irrefl _))); have HV7 : Hid (Gath w7 w.heap.size 5 1 v' (k + 1) (ivals .u8 ((tagsI L).take (k + 1))) ∧ Below w.heap.size w w7 ∧ ∀ g, v'.ownBlock = some g → g < w7.heap.size) := Lib.hid ⟨by rw [HTT.out, ivals_snoc]; exact .inr hown, ((HP.out.low.alloc hzr _).alloc (by simp; omega) _).grown hg (by simp; omega) (fun g e => (hrow g e).2), fun g e => (hown.lt g e).2⟩; have d7 : w7.cell? ⟨wr.heap.size, 0, none⟩ = some (.int .u8 tx) := heap_cell HBX7.out rfl; have d8 : w7.cell? ⟨wr.heap.size, 1, none⟩ = some (.slice x.ba bl x.bc) := heap_cell HBX7.out rfl; have hbw7 := heap_lt HBX7.out; clear hown hg hrow hne)
          have HN : Hid (PkL w L t (k + 1) v' ba0 bl0 bc0 th w7) := Lib.hid ⟨HV7.out.1, HV7.out.2.1, HV7.out.2.2, by rw [HFT2]; exact HP.out.th, by rw [HFT2]; exact HP.out.bd⟩
          clear HFT2 htt
          go_roundw
          case rel => exact ⟨v', k + 1, bl0, bc0, ba0, th, rfl, by omega, by go_num, rfl, rfl, HN⟩
          case measure => simp [intOf]; omega
      · obtain rfl : k = len := by omega
        have HFI := Lib.hid (find_any (HIn.out.on HP.out.low).at_ HIn.out.size t)
        have htk : (secsM L).take k = secsM L := List.take_of_length_le (by rw [HIn.out.ml]; exact Nat.le_refl _)
        have htk2 : (tagsI L).take k = tagsI L := List.take_of_length_le (by unfold tagsI; rw [List.length_map, HLL.out]; exact Nat.le_refl _)
        have HTK := Lib.hid (And.intro htk htk2)
        have hft : ∀ n ∈ tagsI L, (Lit.int .u8 n).wf = true := fun y hy => by
          unfold tagsI at hy
          obtain ⟨x, hx, rfl⟩ := List.mem_map.1 hy
          exact HIn.out.at_.rows.fits x hx
        have hrow := HP.out.row
        rw [htk2] at hrow
        have htl : (tagsI L).length = k := by unfold tagsI; rw [List.length_map]; exact HLL.out
        obtain ⟨aa, ac, ab, rfl, hac, hacm, hab, hia⟩ := hrow.ints htl hft
        have HIA := Lib.hid hia
        have HFT := Lib.hid (And.intro hft htl)
        clear htk htk2 hrow hia hft htl
        go_wp2_with fail
        refine HFI.out.mono ?_
        rintro e w8 ⟨a8, b8, c8, body, ok, rfl, HE8, HQ8⟩
        have HB8 : Hid (Below w.heap.size w w8 ∧ Below wr.heap.size wr w8) := Lib.hid ⟨HP.out.low.trans (HQ8.out.2.2.2.mono HP.out.low.size), HQ8.out.2.2.2⟩
        have hok : ok = th := by rw [HE8.out.2, HP.out.th, HTK.out.1]
        subst hok
        obtain ⟨bb0, bo0, hbd0⟩ := HP.out.bd
        rw [HTK.out.1, ← HE8.out.1] at hbd0
        have hblen := hbd0.length
        have HSm : Hid (∀ W : World, Below w8.heap.size w8 W → Calls Try.prog 24 #[.slice a8 bl0 c8, .slice ba0 bl0 bc0] W fun e w' => e = .returned (.bool true) ∧ W = w') := Lib.hid (fun W hW => by
          have h := same_any (HQ8.out.1.kept hW (Nat.le_refl _)) (hbd0.kept (HB8.out.1.trans (hW.mono HB8.out.1.size)) (Nat.le_refl _)) c8 bc0
          rw [hblen, show decide (body = body) = true by simp] at h
          exact h)
        rw [hblen]
        clear HFI HE8 HQ8 hbd0 hblen
        have hand := and_15 most
        obtain ⟨mm, hmm⟩ : ∃ mm : Nat, most % 16 = (mm : Int) := ⟨(most % 16).toNat, by have := Int.emod_nonneg most (show (16 : Int) ≠ 0 by decide); omega⟩
        have hmml : mm ≤ 15 := by have := Int.emod_lt_of_pos most (show (0 : Int) < 16 by decide); omega
        obtain ⟨n, hn⟩ : ∃ n : Nat, min (mm : Int) (k : Int) = (n : Int) := ⟨min mm k, by omega⟩
        have hnk : n ≤ k := by omega
        have hnki : (n : Int) ≤ (k : Int) := by omega
        have hn0 : (0 : Int) ≤ (n : Int) := Int.natCast_nonneg n
        have HTk : Hid ((tagsI L).take mm = (tagsI L).take n) := Lib.hid (by
          by_cases h : mm ≤ k
          · have : mm = n := by omega
            rw [this]
          · rw [List.take_of_length_le (by rw [HFT.out.2]; omega), List.take_of_length_le (by rw [HFT.out.2]; omega)])
        have HTg : Hid (∀ (W : World) (mo : Int) (j : Nat), Below w8.heap.size w8 W → (upTo mo (tagsI L)).length = j → Calls Try.prog 38 #[.slice a k cap, .int .i64 mo] W fun e w' => ∃ a' c b', e = .returned (.slice a' j c) ∧ Below W.heap.size W w' ∧ Hid (IntsAt .u8 w'.heap.size w' a' b' 0 j (upTo mo (tagsI L)))) := Lib.hid (fun W mo j hW hj => ((ltags_any (HIn.out.on (HB8.out.1.trans (hW.mono HB8.out.1.size))).at_ (by omega) mo).mono (fun e w' ⟨h1, v, h2, h3⟩ => by
          obtain ⟨a', c, b', h4, _, _, _, h5⟩ := h3.ints (k := .u8) rfl (fun y hy => HFT.out.1 y (List.mem_of_mem_take hy))
          subst h4
          rw [hj] at h2 h5
          exact ⟨a', c, b', h2, h1, Lib.hid h5⟩)))
        have HT1 : Hid (∀ W : World, Below w8.heap.size w8 W → Calls Try.prog 38 #[.slice a k cap, .int .i64 1000] W fun e w' => ∃ a' c b', e = .returned (.slice a' k c) ∧ Below W.heap.size W w' ∧ Hid (IntsAt .u8 w'.heap.size w' a' b' 0 k (tagsI L))) := Lib.hid (fun W hW => by
          have h := HTg.out W 1000 k hW (by unfold upTo; rw [List.length_take, HFT.out.2]; have : (1000 : Int).toNat = 1000 := rfl; omega)
          have h2 : upTo 1000 (tagsI L) = tagsI L := by unfold upTo; exact List.take_of_length_le (by rw [HFT.out.2]; have : (1000 : Int).toNat = 1000 := rfl; omega)
          rw [h2] at h
          exact h)
        have HT2 : Hid (∀ W : World, Below w8.heap.size w8 W → Calls Try.prog 38 #[.slice a k cap, .int .i64 (mm : Int)] W fun e w' => ∃ a' c b', e = .returned (.slice a' n c) ∧ Below W.heap.size W w' ∧ Hid (IntsAt .u8 w'.heap.size w' a' b' 0 n ((tagsI L).take n))) := Lib.hid (fun W hW => by
          have h2 : upTo (mm : Int) (tagsI L) = (tagsI L).take n := by unfold upTo; rw [Int.toNat_natCast]; exact HTk.out
          have h := HTg.out W mm n hW (by rw [h2, List.length_take, HFT.out.2]; omega)
          rw [h2] at h
          exact h)
        have HIN : Hid (IntsAt .u8 wr.heap.size wr aa ab 0 n ((tagsI L).take n)) := Lib.hid (HIA.out.take n hnk)
        have HZ8 := Lib.hid HB8.out.2.size
        have HRR : Hid (∀ W, Below w8.heap.size w8 W → Below wr.heap.size wr W) := Lib.hid (fun W hW => HB8.out.2.trans (hW.mono HB8.out.2.size))
        have HQF : Hid (∀ W, Below w8.heap.size w8 W → Below w.heap.size w W) := Lib.hid (fun W hW => HB8.out.1.trans (hW.mono HB8.out.1.size))
        have hac0 : (k : Int) ≤ (ac : Int) := by omega
        have hacn : (n : Int) ≤ (ac : Int) := by omega
        clear HTg HTk HX hacm hab hsm
        go_wp2_with fail
        rw [hmm] at hand
        clear hn hmm hmml
        have HG1 : Hid (∀ (W0 W : World) (a' : Option Addr) (b' c' d' : Nat), Below w8.heap.size w8 W0 → Hid (IntsAt .u8 W0.heap.size W0 a' b' 0 k (tagsI L)) → Below W0.heap.size W0 W → Calls Try.prog 24 #[.slice a' k c', .slice aa k d'] W fun e w' => e = .returned (.bool true) ∧ W = w') := Lib.hid (fun W0 W a' b' c' d' h0 hi hW => by
          have h := same_any (hi.out.kept hW (Nat.le_refl _)) (HIA.out.kept (HRR.out W (h0.trans (hW.mono h0.size))) (Nat.le_refl _)) c' d'
          rw [show decide (tagsI L = tagsI L) = true by simp] at h
          exact h)
        have HG2 : Hid (∀ (W0 W : World) (a' : Option Addr) (b' c' d' : Nat), Below w8.heap.size w8 W0 → Hid (IntsAt .u8 W0.heap.size W0 a' b' 0 n ((tagsI L).take n)) → Below W0.heap.size W0 W → Calls Try.prog 24 #[.slice a' n c', .slice aa n d'] W fun e w' => e = .returned (.bool true) ∧ W = w') := Lib.hid (fun W0 W a' b' c' d' h0 hi hW => by
          have h := same_any (hi.out.kept hW (Nat.le_refl _)) (HIN.out.kept (HRR.out W (h0.trans (hW.mono h0.size))) (Nat.le_refl _)) c' d'
          rw [show decide ((tagsI L).take n = (tagsI L).take n) = true by simp] at h
          exact h)
        go_region_held3 (fun W => Below w8.heap.size w8 W) (first | assumption | exact Below.refl _ _ | exact (Below.refl _ _).drew | exact Below.drew (by assumption)) (first
          | (go_at_call 24; with_reducible refine (HSm.out _ (by assumption)).mono ?_; rintro e w9 ⟨rfl, rfl⟩)
          | (go_at_call 24; with_reducible refine (HG1.out _ _ _ b9 _ _ (by assumption) HI9 (by first | with_reducible exact Below.refl _ _ | with_reducible exact (Below.refl _ _).drew)).mono ?_; rintro e w9 ⟨rfl, rfl⟩)
          | (go_at_call 24; with_reducible refine (HG2.out _ _ _ b10 _ _ (by assumption) HI10 (by first | with_reducible exact Below.refl _ _ | with_reducible exact (Below.refl _ _).drew)).mono ?_; rintro e w9 ⟨rfl, rfl⟩)
          | (go_at_call 38; with_reducible refine (HT1.out _ (by assumption)).mono ?_; rintro e w9 ⟨a9, c9, b9, rfl, hb9, HI9⟩; have hS9 := Below.trans (show Below w8.heap.size w8 _ by assumption) (hb9.mono (Below.size (show Below w8.heap.size w8 _ by assumption))))
          | (go_at_call 38; with_reducible refine (HT2.out _ (by assumption)).mono ?_; rintro e w10 ⟨a10, c10, b10, rfl, hb10, HI10⟩; have hS10 := Below.trans (show Below w8.heap.size w8 _ by assumption) (hb10.mono (Below.size (show Below w8.heap.size w8 _ by assumption))))
          )
        all_goals
          have HF : Hid (Below w.heap.size w _) := Lib.hid (HQF.out _ (by assumption))
          go_wp2
          go_ret
          exact ⟨rfl, HF.out⟩
end Go.Proofs.Ytnkhpmpoemodiaa.Se

set_option linter.unusedVariables false
namespace Go.Proofs.Ytnkhpmpoemodiaa.sectionPacks
open Go.ChangeShapes Go.WideShapes Go.ChangeAt Go.RowKit
open Go.ChangeMaps (open_string shut_string)

theorem own : ownKnob Try.prog.godebug = none := by kernel_rfl
theorem laidOut : laidOutB Try.prog = true := by kernel_rfl

set_option maxRecDepth 100000 in
theorem lifted (os : Os) (started : os.Started) (H : Type) (enc : TypeId × Value → H) :
    ReturnsInHanded {} Try.checked os 7 .any (Rows.sectionPacksSpec.pre6 enc Try.prog Try.f7 Rows.sectionPacksRow.domain false) (Rows.sectionPacksSpec.post enc Try.prog Try.f7 false true false false) := by
  refine returnsInHanded_of_change (C := Try.checked) own started (by kernel_rfl) Try.func7
    (ChangeSpec.witness6 (enc := enc) (C := Try.checked) false ⟨#[], #[.slice none 0 0, .int .u8 0, .int .i64 0], []⟩ 8 (by kernel_rfl) (by kernel_rfl) (by kernel_rfl) (by kernel_rfl)) ?_
  intro W base args ds gs before hval0 hW hcnd _
  have hval : ∀ (j : Nat) t v, Try.f7.params[j]? = some t → args[j]? = some v → Value.okWide Try.prog W .any base t v := hval0
  have hW' := hW
  obtain ⟨p, q, hA0, hV, rfl, hfz, hnd⟩ := hW
  have hA : DataW.TrodAll enc Try.prog W 0 (fun _ => true) true Try.f7.params.toList args.toList ds p := hA0
  rw [Try.params7] at hA hval
  obtain ⟨v0, vs0, d0, ds0, p0, q0, hargs, rfl, rfl, h0, r0⟩ := trodAll_cons hA
  obtain ⟨v1, vs1, d1, ds1, p1, q1, rfl, rfl, rfl, h1, r1⟩ := trodAll_cons r0
  obtain ⟨v2, vs2, d2, ds2, p2, q2, rfl, rfl, rfl, h2, r2⟩ := trodAll_cons r1
  obtain ⟨rfl, rfl, rfl⟩ := trodAll_nil r2
  obtain rfl : args = #[v0, v1, v2] := by cases args; simp_all
  obtain ⟨rfl, rfl⟩ := trodVars_none hV
  obtain ⟨a0, len0, cap0, rfl⟩ := okWide_slice Try.underlying61 (hval 0 61 v0 rfl rfl)
  have k0 := h0
  have lt0 : ∀ x ∈ p0, x.block < W.heap.size := by obtain ⟨m, hm⟩ := k0; exact DataW.trod_lt m _ _ _ hm
  obtain ⟨z0, w0⟩ : ∃ zs, Se.IsSecs W a0 len0 cap0 zs := Se.open_secs h0
  obtain ⟨a1, rfl, rfl, rfl, w1⟩ := open_int Try.underlying5 (hval 1 5 v1 rfl rfl) h1
  obtain ⟨a2, rfl, rfl, rfl, w2⟩ := open_int Try.underlying3 (hval 2 3 v2 rfl rfl) h2
  clear hA0 hval0
  refine (Se.walk_SectionPacks a0 len0 cap0 z0 a1 a2 W w0 w1 w2).mono fun e W' ⟨he, bel⟩ => ?_
  subst he
  exact ⟨_, rfl, _, _, _, [], _, [], hW', trodAll_mk1 (shut_bool Try.underlying4 _), (trodAll_cons_mk (Below.trod laidOut (by kernel_rfl) (of_decide_eq_true (by kernel_rfl)) k0 bel lt0) (trodAll_cons_mk (shut_int Try.underlying5 w1) (trodAll_cons_mk (shut_int Try.underlying3 w2) trodAll_mk0))), rfl, bel.frame _, fun h => by cases h⟩

theorem over : Rows.sectionPacksRow.holds Try.pinned (OpenSpec.ofChange Rows.sectionPacksSpec) :=
  OpenClaim.holds_of_wide 7 Try.f7 rfl rfl rfl rfl rfl rfl rfl ⟨rfl, rfl, rfl, rfl, rfl⟩ rfl rfl rfl rfl rfl (by kernel_rfl) Try.func7 (by kernel_rfl)
    (of_decide_eq_true (by kernel_rfl)) (by unfold Func.isWrapper; first | (rw [if_pos (by decide +kernel)]; kernel_rfl) | (rw [if_neg (by decide +kernel)]; exact ⟨rfl, rfl⟩))
    (fun os started H enc _ => lifted os started H enc)

theorem proved : Rows.SectionPacksSaid := over
#print axioms proved
end Go.Proofs.Ytnkhpmpoemodiaa.sectionPacks
