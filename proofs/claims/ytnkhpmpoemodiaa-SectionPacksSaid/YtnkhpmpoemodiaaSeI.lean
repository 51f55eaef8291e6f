/- Contract: section.Pack. -/
import Derived.Test.YtnkhpmpoemodiaaSeG
import Derived.Lib.SmallJoins
set_option linter.unusedVariables false
set_option linter.unusedSectionVars false
set_option linter.unusedSimpArgs false
namespace Go.Proofs.Ytnkhpmpoemodiaa.Se
open Go.RowKit Go.Shelf

/-- While a file is written: the writer in the first new block, a table. -/
structure PkI (S : Nat → Prop) (w1 : World) (T : Nat) (zs : List Int) (wr : World) : Prop where
  wis : WIs S wr w1.heap.size zs
  tab : T = 0 ∨ (w1.heap.size < T ∧ TabAt wr T usual)
  low : Below w1.heap.size w1 wr
  sz : w1.heap.size + 1 ≤ wr.heap.size
  all : ∀ k, w1.heap.size + 1 ≤ k → S k
section
variable {S : Nat → Prop} {w1 wr w' : World} {T : Nat} {zs xs : List Int}
theorem PkI.on (h : PkI S w1 T zs wr) (hb : Below wr.heap.size wr w') : PkI S w1 T zs w' :=
  ⟨h.wis.stay (Stay.below hb), h.tab.imp id (fun ⟨h1, h2⟩ => ⟨h1, h2.kept hb⟩), h.low.trans (hb.mono h.low.size), Nat.le_trans h.sz hb.size, h.all⟩
theorem PkI.add (h : PkI S w1 T zs wr) (hw : WIs S w' w1.heap.size xs) (hg : wr.grownBy w' (some w1.heap.size)) : PkI S w1 T xs w' :=
  ⟨hw, h.tab.imp id (fun ⟨h1, cur, h2, h3⟩ => ⟨h1, cur, heap_kept h2 hg (by simp; omega), h3⟩), h.low.grown hg h.low.size (fun k e => by cases e; exact Nat.le_refl _), Nat.le_trans h.sz hg.size, h.all⟩
def PkP (S : Nat → Prop) (w1 : World) (T : Nat) (zs : List Int) (wr : World) (e : Ending) (w' : World) : Prop := e = .returned (.tuple #[]) ∧ PkI S w1 T zs w' ∧ wr.grownBy w' (some w1.heap.size)
theorem raw_pk (h : PkI S w1 T zs wr) {B : Nat} {a : Option Addr} {b off cap : Nat} (hi : IntsAt .u8 B wr a b off xs.length xs) (h0 : a = none → xs.length = 0 ∧ cap = 0) (hx : xs.length ≤ 60000) (hz : zs.length ≤ 900000) :
    Calls Try.prog 28 #[.pointer (some ⟨w1.heap.size, 0, none⟩), .slice a xs.length cap] wr (PkP S w1 T (zs ++ xs) wr) :=
  (wraw_any S wr w1.heap.size zs xs B a b off cap hi h0 hx h.wis (fun k hk => h.all k (Nat.le_trans h.sz hk)) hz).mono (fun e w' ⟨h1, h2, h3⟩ => ⟨h1, h.add h2 h3, h3⟩)
theorem count_pk (h : PkI S w1 T zs wr) (n : Nat) (hn : n ≤ 1000000) (hz : zs.length ≤ 900000) :
    Calls Try.prog 48 #[.pointer (some ⟨w1.heap.size, 0, none⟩), .int .i64 n] wr (PkP S w1 T (zs ++ putF n) wr) :=
  (wcount_any S wr w1.heap.size zs n n (by omega) (by omega) (by omega) h.wis (fun k hk => h.all k (Nat.le_trans h.sz hk)) hz).mono (fun e w' ⟨h1, h2, h3⟩ => ⟨h1, h.add h2 h3, h3⟩)
theorem fixed_pk (h : PkI S w1 T zs wr) (n : Int) (hn : 0 ≤ n ∧ n ≤ 4294967295) (hz : zs.length ≤ 900000) :
    Calls Try.prog 59 #[.pointer (some ⟨w1.heap.size, 0, none⟩), .int .u32 n] wr (PkP S w1 T (zs ++ fixF n) wr) :=
  (wfixed_any S wr w1.heap.size zs n hn.1 hn.2 h.wis (fun k hk => h.all k (Nat.le_trans h.sz hk)) hz).mono (fun e w' ⟨h1, h2, h3⟩ => ⟨h1, h.add h2 h3, h3⟩)
theorem sum_pk (h : PkI S w1 T zs wr) (hT : T ≠ 0) {B : Nat} {a : Option Addr} {b off len cap : Nat} (hi : IntsAt .u8 B wr a b off len xs) :
    Calls Try.prog 60 #[.pointer (some ⟨T, 0, none⟩), .slice a len cap] wr fun e w' => e = .returned (.int .u32 (sumB xs)) ∧ wr = w' :=
  sum_any usual T usual_lt xs B a b off len cap wr (h.tab.resolve_left hT).2 hi
end
/-- What is packed lies whole in new memory. -/
def PackQ (L : List SecM) (w : World) (e : Ending) (w' : World) : Prop :=
  ∃ a c g, e = .returned (.tuple #[.slice a (packI L).length c, .int .i64 (packE L)]) ∧ Hid (Below w.heap.size w w' ∧ (packE L ≠ 0 → a = none ∧ c = 0) ∧ (packE L = 0 → a = some ⟨g, 0, none⟩ ∧ c = (packI L).length ∧ w.heap.size ≤ g ∧ w'.heap[g]? = some (.cells (ivals .u8 (packI L)).toArray 5 (0, 0)) ∧ ∀ x ∈ packI L, (Lit.int .u8 x).wf = true))
theorem putF_len (n : Nat) : (putF n).length ≤ 10 := (putL_length 9 n).2
theorem headI_len (x : SecM) : (headI x).length ≤ 15 := by
  unfold headI
  simp only [List.length_cons, List.length_append, fixF_length]
  have := putF_len x.body.length
  omega
theorem heads_len (L : List SecM) : (L.flatMap headI).length ≤ 15 * L.length := by
  induction L with
  | nil => simp
  | cons x xs ih =>
    rw [List.flatMap_cons, List.length_append, List.length_cons]
    have := headI_len x
    omega
theorem flat_take_le {α : Type} (f : α → List Int) (L : List α) (k : Nat) : ((L.take k).flatMap f).length ≤ (L.flatMap f).length := by
  conv => rhs; rw [← List.take_append_drop k L]
  rw [List.flatMap_append, List.length_append]
  omega
theorem flat_snoc {α : Type} (f : α → List Int) {L : List α} {k : Nat} {x : α} (h : L[k]? = some x) : (L.take (k + 1)).flatMap f = (L.take k).flatMap f ++ f x := by
  obtain ⟨g1, g2⟩ := List.getElem?_eq_some_iff.1 h
  rw [List.take_succ_eq_append_getElem g1, List.flatMap_append, g2]
  simp
def sgA : Array Value := #[.int .u8 83, .int .u8 65, .int .u8 78, .int .u8 68]
theorem sign_ints (w : World) (g : Nat) (hg : g = w.heap.size) : IntsAt .u8 (w.alloc (.cells sgA 5 (4, 5))).heap.size (w.alloc (.cells sgA 5 (4, 5))) (some ⟨g, 0, none⟩) g 0 signI.length signI := by
  subst hg
  refine ⟨.inr rfl, rfl, by decide, .inr (by simp), fun i hi => ?_, by decide⟩
  have h : i < 4 := hi
  have h4 : i = 0 ∨ i = 1 ∨ i = 2 ∨ i = 3 := by omega
  rcases h4 with rfl | rfl | rfl | rfl <;> exact heap_cell (heap_new _ rfl) rfl
theorem one_ints (w : World) (t : Int) (ht : (Lit.int .u8 t).wf = true) (g : Nat) (hg : g = w.heap.size) : IntsAt .u8 (w.alloc (.cells #[.int .u8 t] 5)).heap.size (w.alloc (.cells #[.int .u8 t] 5)) (some ⟨g, 0, none⟩) g 0 [t].length [t] := by
  subst hg
  exact whole_ints (heap_new _ rfl) (by simpa using ht) (by show 1 ≤ maxLen; decide)
set_option maxRecDepth 100000 in
set_option maxHeartbeats 2000000 in
theorem pack_any {w : World} {a : Option Addr} {b off len cap : Nat} {L : List SecV} (h : SecsAt w.heap.size w a b off len cap L) (hl : len ≤ 100000) (hs : ((secsM L).flatMap (·.body)).length ≤ 50000) : Calls Try.prog 34 #[.slice a len cap] w (PackQ (secsM L) w) := by
  have HM := Lib.hid h
  have HL : Hid ((secsM L).length = len) := Lib.hid (by unfold secsM; rw [List.length_map]; exact h.rows.length)
  have HR := Lib.hid (rise_any h hl)
  have hsm := h.rows.small
  have hmx := hsm
  unfold maxLen at hmx
  have HX : Hid (∀ k, k < len → ∃ x, (secsM L)[k]? = some x.m ∧ a = some ⟨b, off, none⟩ ∧ b < w.heap.size ∧ w.cell? ⟨b, off + k * 2, none⟩ = some (.int .u8 x.m.tag) ∧ w.cell? ⟨b, off + k * 2 + 1, none⟩ = some x.bv ∧ fitS x ∧ SecIn w.heap.size w x) := Lib.hid (fun k hk => by
    obtain ⟨x, h1, h2, h3, h4, h5, h6⟩ := sec_cells h.rows hk
    exact ⟨x, by unfold secsM; rw [List.getElem?_map, h1]; rfl, h2, h3, h4, h5, h6, h.inner x (List.mem_of_getElem? h1)⟩)
  obtain ⟨M, hM⟩ : ∃ M, secsM L = M := ⟨_, rfl⟩
  rw [hM] at HL HX HR hs ⊢
  have HSZ := Lib.hid hs
  clear h hM hs
  by_cases h255 : 255 < len
  · have h255i : (255 : Int) < (len : Int) := by omega
    have hE : packE M = 3 := by unfold packE; rw [if_pos (by rw [HL.out]; exact h255)]
    have hI : packI M = [] := by unfold packI; rw [if_neg (by rw [hE]; decide)]
    have HQ : Hid (PackQ M w (.returned (.tuple #[.slice none 0 0, .int .i64 3])) w) := Lib.hid ⟨none, 0, 0, by rw [hE, hI]; rfl, Lib.hid ⟨Below.refl _ _, fun _ => ⟨rfl, rfl⟩, fun e => by rw [hE] at e; cases e⟩⟩
    clear hE hI
    go_enter Try.func34, Try.ntmps34
    go_wp2
    go_ret2
    exact HQ.out
  · have h255i : ¬ (255 : Int) < (len : Int) := by omega
    by_cases hri : riseB M = true
    · have hE : packE M = 0 := by unfold packE; rw [if_neg (by rw [HL.out]; exact h255), if_pos hri]
      have hI : packI M = sealI (innerI M) := by unfold packI; rw [if_pos hE]
      have HE := Lib.hid (And.intro hE hI)
      rw [hri] at HR
      clear hE hI hri
      have HIN : Hid ((innerI M).length ≤ 60000) := Lib.hid (by
        unfold innerI
        simp only [List.length_append]
        have h1 := heads_len M
        have h2 := HSZ.out
        have h3 := putF_len M.length
        have h4 := HL.out
        have h5 : signI.length = 4 := rfl
        omega)
      have HHL : Hid ((M.flatMap headI).length ≤ 15 * len) := Lib.hid (by rw [← HL.out]; exact heads_len M)
      go_enter Try.func34, Try.ntmps34
      go_wp2_with fail
      refine HR.out.mono ?_
      rintro e w1 ⟨rfl, hb1⟩
      obtain ⟨S, hS1, hS2⟩ := wis_first w1
      have HP0 : Hid (PkI S w1 0 [] (w1.alloc (.cells #[.pointer none, .int .i64 0] 39))) := Lib.hid ⟨hS2, .inl rfl, (Below.refl _ _).alloc (Nat.le_refl _) _, by simp, hS1⟩
      have HB1 := Lib.hid hb1
      clear hb1 hS1 hS2
      have HP1 : Hid (PkI S w1 0 [] ((w1.alloc (.cells #[.pointer none, .int .i64 0] 39)).alloc (.cells #[.int .u8 83, .int .u8 65, .int .u8 78, .int .u8 68] 5 (4, 5)))) := Lib.hid (HP0.out.on ((Below.refl _ _).alloc (Nat.le_refl _) _))
      have HC1 : Hid (Calls Try.prog 28 #[.pointer (some ⟨w1.heap.size, 0, none⟩), .slice (some ⟨w1.heap.size + 1, 0, none⟩) 4 4] ((w1.alloc (.cells #[.pointer none, .int .i64 0] 39)).alloc (.cells #[.int .u8 83, .int .u8 65, .int .u8 78, .int .u8 68] 5 (4, 5))) (PkP S w1 0 signI ((w1.alloc (.cells #[.pointer none, .int .i64 0] 39)).alloc (.cells #[.int .u8 83, .int .u8 65, .int .u8 78, .int .u8 68] 5 (4, 5))))) := Lib.hid (raw_pk (xs := signI) (cap := 4) HP1.out (sign_ints _ _ (by simp)) (fun e => by cases e) (by decide) (by simp))
      have kc := Go.Joins.run_convert_bytes_const_at (P := Try.prog) (w1.alloc (.cells #[.pointer none, .int .i64 0] 39)) 45 5 #[.int .u8 83, .int .u8 65, .int .u8 78, .int .u8 68] 4 4 (w1.heap.size + 1) (by simp) Try.underlying45 Try.underlying5
      have HWb : Hid (w.heap.size ≤ w1.heap.size) := Lib.hid HB1.out.size
      go_wp2_with fail
      refine HC1.out.mono ?_
      rintro e w2 ⟨rfl, hp2, -⟩
      have HP2 := Lib.hid hp2
      have HC2 := Lib.hid (count_pk hp2 len (by omega) (by simp [signI]))
      clear hp2 HC1 HP1 HP0 kc
      go_wp2_with fail
      refine HC2.out.mono ?_
      rintro e w3 ⟨rfl, hp3, -⟩
      have HP3 := Lib.hid hp3
      have HMk := Lib.hid (make_any usual w3 usual_lt)
      clear hp3 HC2 HP2
      go_wp2_with fail
      refine HMk.out.mono ?_
      rintro e w4 ⟨rfl, ht, hb4⟩
      obtain ⟨T, hT⟩ : ∃ T, w3.heap.size = T := ⟨_, rfl⟩
      obtain ⟨P0, hP0⟩ : ∃ P0, [] ++ signI ++ putF len = P0 := ⟨_, rfl⟩
      have hT0 : T ≠ 0 := by have := HP3.out.sz; omega
      have HP4 : Hid (PkI S w1 T P0 w4) := Lib.hid (by
        have h := HP3.out.on hb4
        rw [← hP0]
        exact ⟨h.wis, .inr ⟨by have := HP3.out.sz; omega, by rw [← hT]; exact ht⟩, h.low, h.sz, h.all⟩)
      have HPL : Hid (P0.length ≤ 14) := Lib.hid (by rw [← hP0]; simp only [List.length_append, List.length_nil]; have := putF_len len; have h5 : signI.length = 4 := rfl; omega)
      have HPE := Lib.hid hP0
      rw [hT]
      clear hb4 ht HMk HP3 hT hP0
      have HLOW : Hid (∀ zs wr, PkI S w1 T zs wr → Below w.heap.size w wr) := Lib.hid (fun zs wr h => HB1.out.trans (h.low.mono HWb.out))
      go_wp2_with fail
      go_loopw [25] (fun i wr => ∃ k : Nat, k ≤ len ∧ i = .int .i64 (k : Int) ∧ Hid (PkI S w1 T (P0 ++ (M.take k).flatMap headI) wr)) (fun i _ => len - (intOf i).toNat)
      case atStart => exact ⟨0, Nat.zero_le _, rfl, Lib.hid (by rw [List.take_zero, List.flatMap_nil, List.append_nil]; exact HP4.out)⟩
      case round =>
        obtain ⟨k, hk, rfl, HP⟩ := hrel
        clear HP4
        have hk0 : (0 : Int) ≤ (k : Int) := Int.natCast_nonneg k
        by_cases hk1 : k < len
        · obtain ⟨x, hx, ha, hb, e0, e1, hfx, hxi⟩ := HX.out k hk1
          have hBw := HLOW.out _ _ HP.out
          have c0 := (hBw.cell (p := ⟨b, off + k * 2, none⟩) hb).trans e0
          have c1 := (hBw.cell (p := ⟨b, off + k * 2 + 1, none⟩) hb).trans e1
          have HXI := Lib.hid hxi
          have hbl : x.m.body.length ≤ 50000 := Nat.le_trans (inner_len M x.m (List.mem_of_getElem? hx)) HSZ.out
          have HN : Hid ((M.take (k + 1)).flatMap headI = (M.take k).flatMap headI ++ headI x.m) := Lib.hid (flat_snoc headI hx)
          have hzl : (P0 ++ (M.take k).flatMap headI).length ≤ 5000 := by
            rw [List.length_append]
            have h1 := flat_take_le headI M k
            have h2 := HHL.out
            have h3 := HPL.out
            omega
          subst ha
          have hki : (k : Int) < (len : Int) := by omega
          unfold SecV.bv at c1
          obtain ⟨t, ht⟩ : ∃ t, x.m.tag = t := ⟨_, rfl⟩
          obtain ⟨bl, hbl2⟩ : ∃ bl, x.m.body.length = bl := ⟨_, rfl⟩
          obtain ⟨Z, hZ⟩ : ∃ Z, P0 ++ (M.take k).flatMap headI = Z := ⟨_, rfl⟩
          rw [hZ] at HP hzl
          have hft : (Lit.int .u8 t).wf = true := by rw [← ht]; exact hfx
          have HH : Hid (P0 ++ (M.take (k + 1)).flatMap headI = Z ++ [t] ++ putF bl ++ fixF (sumB x.m.body)) := Lib.hid (by rw [HN.out, ← List.append_assoc, hZ, ← ht, ← hbl2]; simp [headI])
          rw [ht] at c0
          rw [hbl2] at c1 hbl
          have HBL := Lib.hid hbl2
          clear HN hZ ht hbl2 e0 e1 hfx hxi hx hBw
          have HPa : Hid (PkI S w1 T Z ((wr.alloc (.cells #[.int .u8 t, .slice x.ba bl x.bc] 70)).alloc (.cells #[.int .u8 t] 5))) := Lib.hid ((HP.out.on ((Below.refl _ _).alloc (Nat.le_refl _) _)).on ((Below.refl _ _).alloc (Nat.le_refl _) _))
          have HBx : Hid (((wr.alloc (.cells #[.int .u8 t, .slice x.ba bl x.bc] 70)).alloc (.cells #[.int .u8 t] 5)).heap[wr.heap.size]? = some (.cells #[.int .u8 t, .slice x.ba bl x.bc] 70 (0, 0))) := Lib.hid (heap_alloc (heap_new _ rfl) _)
          have HC1 : Hid (Calls Try.prog 28 #[.pointer (some ⟨w1.heap.size, 0, none⟩), .slice (some ⟨wr.heap.size + 1, 0, none⟩) 1 1] ((wr.alloc (.cells #[.int .u8 t, .slice x.ba bl x.bc] 70)).alloc (.cells #[.int .u8 t] 5)) (PkP S w1 T (Z ++ [t]) ((wr.alloc (.cells #[.int .u8 t, .slice x.ba bl x.bc] 70)).alloc (.cells #[.int .u8 t] 5)))) := Lib.hid (raw_pk (xs := [t]) (cap := 1) HPa.out (one_ints _ t hft _ (by simp)) (fun e => by cases e) (by show 1 ≤ 60000; decide) (by omega))
          have hWne : wr.heap.size ≠ w1.heap.size := by have := HP.out.sz; omega
          clear hft
          go_wp2_with fail
          refine HC1.out.mono ?_
          rintro e w5 ⟨rfl, hp5, hg5⟩
          have hbx5 := heap_kept HBx.out hg5 (by simp; exact hWne)
          have HC2 := Lib.hid (count_pk hp5 bl (by omega) (by simp; omega))
          have HX5 := Lib.hid hbx5
          have c5 := heap_cell hbx5 (i := 1) rfl
          simp only [List.getElem_toArray, List.getElem_cons_zero, List.getElem_cons_succ] at c5
          clear hp5 hg5 hbx5 HC1 HBx HPa c0 c1
          go_wp2_with fail
          refine HC2.out.mono ?_
          rintro e w6 ⟨rfl, hp6, hg6⟩
          have hbx6 := heap_kept HX5.out hg6 (by simp; exact hWne)
          have hrow6 := HXI.out.row.kept (HLOW.out _ _ hp6) (Nat.le_refl _)
          have HC3 := Lib.hid (sum_pk (cap := x.bc) hp6 hT0 hrow6)
          rw [HBL.out] at HC3
          have hzz : (Z ++ [t] ++ putF bl).length ≤ 6000 := by
            simp only [List.length_append, List.length_singleton]
            have := putF_len bl
            omega
          have HC4 := Lib.hid (fixed_pk hp6 (sumB x.m.body) (sumB_bd _) (by omega))
          have c6 := heap_cell hbx6 (i := 1) rfl
          simp only [List.getElem_toArray, List.getElem_cons_zero, List.getElem_cons_succ] at c6
          obtain ⟨sm, hsm2⟩ : ∃ sm, sumB x.m.body = sm := ⟨_, rfl⟩
          rw [hsm2] at HC3 HC4 HH
          clear hp6 hg6 hbx6 HC2 HX5 c5 hrow6 hzz hsm2 hzl
          go_wp2_with fail
          refine HC3.out.mono ?_
          rintro e w7 ⟨rfl, rfl⟩
          go_wp2_with fail
          refine HC4.out.mono ?_
          rintro e w8 ⟨rfl, hp8, -⟩
          have HP8 : Hid (PkI S w1 T (P0 ++ (M.take (k + 1)).flatMap headI) w8) := Lib.hid (by rw [HH.out]; exact hp8)
          clear hp8 HC3 HC4
          go_wp2
          go_roundw
          case rel => exact ⟨k + 1, by omega, by go_num, HP8⟩
          case measure => simp [intOf]; omega
        · obtain rfl : k = len := by omega
          obtain ⟨P1, hP1⟩ : ∃ P1, P0 ++ M.flatMap headI = P1 := ⟨_, rfl⟩
          have HP1 : Hid (PkI S w1 T P1 wr) := Lib.hid (by
            have h := HP.out
            rw [List.take_of_length_le (by rw [HL.out]; exact Nat.le_refl _), hP1] at h
            exact h)
          have HPL1 : Hid (P1.length ≤ 5000) := Lib.hid (by
            rw [← hP1, List.length_append]
            have h2 := HHL.out
            have h3 := HPL.out
            omega)
          have HPE1 := Lib.hid hP1
          clear HP hP1
          go_wp2_with fail
          go_loopw [45] (fun i wr => ∃ k' : Nat, k' ≤ k ∧ i = .int .i64 (k' : Int) ∧ Hid (PkI S w1 T (P1 ++ (M.take k').flatMap (·.body)) wr)) (fun i _ => k - (intOf i).toNat)
          case atStart => exact ⟨0, Nat.zero_le _, rfl, Lib.hid (by rw [List.take_zero, List.flatMap_nil, List.append_nil]; exact HP1.out)⟩
          case round =>
            obtain ⟨j, hj, rfl, HP⟩ := hrel
            clear HP1
            have hj0 : (0 : Int) ≤ (j : Int) := Int.natCast_nonneg j
            by_cases hj1 : j < k
            · obtain ⟨x, hx, ha, hb, e0, e1, hfx, hxi⟩ := HX.out j hj1
              have hBw := HLOW.out _ _ HP.out
              have c0 := (hBw.cell (p := ⟨b, off + j * 2, none⟩) hb).trans e0
              have c1 := (hBw.cell (p := ⟨b, off + j * 2 + 1, none⟩) hb).trans e1
              have hbl : x.m.body.length ≤ 50000 := Nat.le_trans (inner_len M x.m (List.mem_of_getElem? hx)) HSZ.out
              have HN : Hid ((M.take (j + 1)).flatMap (·.body) = (M.take j).flatMap (·.body) ++ x.m.body) := Lib.hid (flat_snoc (fun y => y.body) hx)
              have hzl : (P1 ++ (M.take j).flatMap (·.body)).length ≤ 60000 := by
                rw [List.length_append]
                have h1 := flat_take_le (fun y : SecM => y.body) M j
                have h2 := HSZ.out
                have h3 := HPL1.out
                omega
              have hrow := (hxi.row.kept hBw (Nat.le_refl _)).mono hBw.size
              have HC1 := Lib.hid (raw_pk (xs := x.m.body) (cap := x.bc) (wr := wr.alloc (.cells #[.int .u8 x.m.tag, .slice x.ba x.m.body.length x.bc] 70)) (HP.out.on ((Below.refl _ _).alloc (Nat.le_refl _) _)) (hrow.kept ((Below.refl _ _).alloc (Nat.le_refl _) _) (Nat.le_refl _)) hxi.nil (by omega) (by omega))
              subst ha
              have hki : (j : Int) < (k : Int) := by omega
              unfold SecV.bv at c1
              clear e0 e1 hfx hxi hx hBw hrow
              go_wp2_with fail
              refine HC1.out.mono ?_
              rintro e w5 ⟨rfl, hp5, -⟩
              have HP5 : Hid (PkI S w1 T (P1 ++ (M.take (j + 1)).flatMap (·.body)) w5) := Lib.hid (by rw [HN.out, ← List.append_assoc]; exact hp5)
              clear hp5 HC1
              go_wp2
              go_roundw
              case rel => exact ⟨j + 1, by omega, by go_num, HP5⟩
              case measure => simp [intOf]; omega
            · obtain rfl : j = k := by omega
              have HPZ : Hid (PkI S w1 T (innerI M) wr) := Lib.hid (by
                have h := HP.out
                rw [List.take_of_length_le (by rw [HL.out]; exact Nat.le_refl _), ← HPE1.out, ← HPE.out, ← HL.out] at h
                rw [show innerI M = [] ++ signI ++ putF M.length ++ M.flatMap headI ++ M.flatMap (·.body) by simp [innerI]]
                exact h)
              have HD := Lib.hid (wdone_any S wr w1.heap.size (innerI M) HPZ.out.wis (by have := HIN.out; omega))
              clear HP
              go_wp2_with fail
              refine HD.out.mono ?_
              rintro e w5 ⟨rfl, hg5, hwf, hb5⟩
              have hS := Lib.hid (seal_any (innerI M) w5.heap.size (some ⟨wr.heap.size, 0, none⟩) wr.heap.size 0 (innerI M).length w5 (whole_ints hg5 hwf (by have := HIN.out; unfold maxLen; omega)) (fun e => by cases e) (Nat.le_refl _) HIN.out)
              have HB5 : Hid (Below w.heap.size w w5) := Lib.hid ((HLOW.out _ _ HPZ.out).trans (hb5.mono (HLOW.out _ _ HPZ.out).size))
              clear hg5 hwf hb5 HD
              obtain ⟨nl, hnl⟩ : ∃ nl, (innerI M).length = nl := ⟨_, rfl⟩
              rw [hnl] at hS ⊢
              clear hnl
              go_wp2_with fail
              refine hS.out.mono ?_
              rintro e w6 ⟨g, rfl, hg, hblk, hwf, hb6⟩
              have HQ : Hid (PackQ M w (.returned (.tuple #[.slice (some ⟨g, 0, none⟩) (sealI (innerI M)).length (sealI (innerI M)).length, .int .i64 0])) w6) := Lib.hid ⟨_, _, g, by rw [HE.out.1, HE.out.2]; rfl, Lib.hid ⟨HB5.out.trans (hb6.mono HB5.out.size), fun h => absurd HE.out.1 h, fun _ => ⟨rfl, by rw [HE.out.2], Nat.le_trans HB5.out.size hg, by rw [HE.out.2]; exact hblk, by rw [HE.out.2]; exact hwf⟩⟩⟩
              clear hg hblk hwf hb6
              go_wp2
              go_ret2
              exact HQ.out
    · have hrf : riseB M = false := by simpa using hri
      have hE : packE M = 46 := by unfold packE; rw [if_neg (by rw [HL.out]; exact h255), if_neg (by rw [hrf]; decide)]
      have hI : packI M = [] := by unfold packI; rw [if_neg (by rw [hE]; decide)]
      have HQ : Hid (∀ w', Below w.heap.size w w' → PackQ M w (.returned (.tuple #[.slice none 0 0, .int .i64 46])) w') := Lib.hid (fun w' hb => ⟨none, 0, 0, by rw [hE, hI]; rfl, Lib.hid ⟨hb, fun _ => ⟨rfl, rfl⟩, fun e => by rw [hE] at e; cases e⟩⟩)
      rw [hrf] at HR
      clear hE hI hrf hri
      go_enter Try.func34, Try.ntmps34
      go_wp2_with fail
      refine HR.out.mono ?_
      rintro e w1 ⟨rfl, hb1⟩
      have HQ1 := Lib.hid (HQ.out w1 hb1)
      clear hb1
      go_wp2
      go_ret2
      exact HQ1.out
end Go.Proofs.Ytnkhpmpoemodiaa.Se
