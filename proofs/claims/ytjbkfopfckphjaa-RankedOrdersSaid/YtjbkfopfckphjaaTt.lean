/- The walk of RankedOrders. -/
import Derived.Test.YtjbkfopfckphjaaTs
set_option linter.unusedVariables false
set_option linter.unusedSectionVars false
namespace Go.Proofs.Ytjbkfopfckphjaa
open Go.RowKit Go.Shelf Rk

attribute [local go_sem] Oper.semAt_some

/-- Behind the drop of the first j keys. -/
def Fd (zs : List Int) (F : Int → Option Int) (j : Nat) (x : Int) : Option Int := if x ∈ zs.take j then none else F x
theorem Fd_succ (zs : List Int) (F : Int → Option Int) {j : Nat} (hj : j < zs.length) (x : Int) : (if x = zs.getD j 0 then none else Fd zs F j x) = Fd zs F (j + 1) x := by
  unfold Fd
  have := mem_take_succ zs hj x
  by_cases h : x = zs.getD j 0
  · rw [if_pos h, if_pos (this.2 (.inr h))]
  · rw [if_neg h]
    by_cases h2 : x ∈ zs.take j
    · rw [if_pos h2, if_pos (this.2 (.inl h2))]
    · rw [if_neg h2, if_neg (fun h3 => by rcases this.1 h3 with h4 | h4; exact h2 h4; exact h h4)]
theorem lastAt_mem (zs : List Int) {x v : Int} (h : lastAt (fun i => zs.getD i 0) zs.length x = some v) : x ∈ zs := by
  obtain ⟨i, h1, _, h2⟩ := lastAt_some h
  rw [← h2]; exact getD_mem zs h1
/-- With all of its keys let go, but one that was put behind, no more than that one is left. -/
theorem one_left (zs : List Int) (k : Int) {L : List (Int × Int)} (hs : Srt ltI L) (h : ∀ x, get ltI x L = Fd zs (fun x => if x = k then some (-1) else lastAt (fun i => zs.getD i 0) zs.length x) zs.length x) : L.length ≤ 1 := by
  have hk : ∀ p ∈ L, p.1 = k := by
    intro p hp
    have h1 := get_of_mem linI hs hp
    rw [h] at h1
    unfold Fd at h1
    split at h1
    · cases h1
    · next hn =>
      by_cases e : p.1 = k
      · exact e
      · simp only [e, if_false] at h1
        rw [List.take_length] at hn
        exact absurd (lastAt_mem zs h1) hn
  match L, hs, hk with
  | [], _, _ => simp
  | [_], _, _ => simp
  | p :: q :: r, hs, hk =>
    have h1 := (List.pairwise_cons.1 hs).1 q (List.mem_cons_self ..)
    rw [hk p (List.mem_cons_self ..), hk q (List.mem_cons_of_mem _ (List.mem_cons_self ..)), linI.irr] at h1
    cases h1
/-- What stands at a place of the row. -/
theorem row_facts (zs : List Int) {L : List (Int × Int)} (hs : Srt ltI L) (hF : ∀ x, get ltI x L = lastAt (fun i => zs.getD i 0) zs.length x) {i : Nat} (hi : i < L.length) :
    ∃ (k : Int) (m : Nat), L.getD i default = (k, (m : Int)) ∧ m < zs.length ∧ zs.getD m 0 = k ∧ atK (i : Int) L = k ∧ atV (i : Int) L = (m : Int) ∧ (nthI L (i : Int)).isSome = true ∧ (rk ltI k L : Int) = (i : Int) ∧
      (0 < i → (L.getD (i - 1) default).1 < k) := by
  have he : L[i]? = some (L[i]) := List.getElem?_eq_getElem hi
  have hg := get_of_mem linI hs (List.getElem_mem hi)
  rw [hF] at hg
  obtain ⟨m, h1, h2, h3⟩ := lastAt_some hg
  have hn : nthI L (i : Int) = some (L[i]) := by unfold nthI; rw [if_neg (by omega)]; simp [he]
  refine ⟨L[i].1, m, by rw [← h2]; simp [List.getD, hi], h1, h3, by unfold atK; rw [hn]; rfl, by unfold atV; rw [hn, ← h2]; rfl, by rw [hn]; rfl, by rw [rk_at linI hs he], fun h0 => ?_⟩
  have := List.pairwise_iff_getElem.1 hs (i - 1) i (by omega) hi (by omega)
  simp [ltI] at this
  simpa [List.getD, show i - 1 < L.length by omega] using this

theorem IsSeq.turned {W W' : World} {v : Value} {n₀ m : Nat} {D : List (Int × Int)} (h : IsSeq W v n₀ D) (ht : Turned (fun c => c = m) W W') (hm : ∃ cs, W.heap[m]? = some (.cells cs 26 (0, 0))) : IsSeq W' v n₀ D := by
  obtain ⟨cs, hcs⟩ := hm
  obtain ⟨B1, B2, p, t, s, h1, h2, h3, h4, h5, h6, h7, h8⟩ := h
  refine ⟨B1, B2, p, t, s, h1, ht.old h2 (fun e => ?_), ht.old h3 (fun e => ?_), h4.spared ht (fun c e o ho => ?_), h5, h6, h7, Nat.le_trans h8 ht.size⟩
  · subst e; rw [hcs] at h2; cases h2
  · subst e; rw [hcs] at h3; cases h3
  · subst e; rw [hcs] at ho; cases ho; exact notNode_map _ _
/-- The world behind the drops. -/
structure OW (w : World) (mb mc b8 B8 n8 : Nat) (a8 : Option Addr) (sv : Value) (n₀ : Nat) (L0 : List (Int × Int)) (F : Int → Option Int) (n : Nat) (wr : World) : Prop where
  ri : RI w mb F n wr
  cop : IsM wr mc 0 L0
  seq : IsSeq wr sv n₀ L0
  was : ItsAt B8 wr a8 b8 n8 L0
  size : B8 ≤ wr.heap.size
theorem OW.turned {w : World} {mb mc b8 B8 n8 : Nat} {a8 : Option Addr} {sv : Value} {n₀ : Nat} {L0 : List (Int × Int)} {F F' : Int → Option Int} {n n' : Nat} {wr w' : World} {L' : List (Int × Int)} (h : OW w mb mc b8 B8 n8 a8 sv n₀ L0 F n wr) (h1 : mc ≠ mb) (h3 : n8 = 0 ∨ b8 ≠ mb)
    (hP : PutW mb 0 L' wr w') (hr : RI w mb F' n' w') : OW w mb mc b8 B8 n8 a8 sv n₀ L0 F' n' w' := by
  obtain ⟨L, hL, _⟩ := h.ri.map
  exact ⟨hr, h.cop.apart hP h1 hL.box, h.seq.turned hP.turned hL.box, h.was.turned hP.turned h.size h3, Nat.le_trans h.size hP.turned.size⟩
theorem OW.below {w : World} {mb mc b8 B8 n8 : Nat} {a8 : Option Addr} {sv : Value} {n₀ : Nat} {L0 : List (Int × Int)} {F : Int → Option Int} {n : Nat} {wr w' : World} (h : OW w mb mc b8 B8 n8 a8 sv n₀ L0 F n wr) (hb : Below wr.heap.size wr w') : OW w mb mc b8 B8 n8 a8 sv n₀ L0 F n w' := by
  obtain ⟨L, hL, h5, h6⟩ := h.ri.map
  exact ⟨⟨h.ri.below.trans (hb.mono h.ri.size), L, hL.below hb, h5, h6⟩, h.cop.below hb, h.seq.below hb, h.was.kept hb h.size, Nat.le_trans h.size hb.size⟩

set_option maxRecDepth 100000 in
set_option maxHeartbeats 4000000 in
theorem walk_RankedOrders (a0 : Option Addr) (len0 cap0 : Nat) (z0 : List Int) (v1 : Int) (w : World) (w0 : IsRow .i64 w a0 len0 cap0 z0) (w1 : (Lit.int .i64 v1).wf = true) :
    Calls Try.prog 4 #[.slice a0 len0 cap0, .int .i64 v1] w fun e w' => e = .returned (.bool true) ∧ Below w.heap.size w w' := by
  obtain ⟨b, off, hi⟩ := w0.ints
  have hm := hi.small
  unfold maxLen at hm
  have H0 := Lib.hid hi
  have hlz := hi.length
  clear hi w0 w1
  generalize z0.take len0 = z at *
  have HLZ := Lib.hid hlz
  clear hlz
  by_cases h100 : 100 < len0
  · go_enter Try.func4, Try.ntmps4
    go_wp2_with fail
    refine (alive_any _).mono ?_
    rintro e w2 ⟨rfl, hB2⟩
    have HB2 := Lib.hid hB2
    clear hB2
    go_wp2
    go_ret
    exact ⟨rfl, HB2.out⟩
  refine (callsIn_wide (n := 3)).1 ?_
  refine callsIn_of_wp_marks Try.func4 rfl trivial ?_ rfl
  simp only [Try.ntmps4, List.size_toArray, List.length_cons, List.length_nil, Nat.reduceAdd, Nat.reduceSub, Array.replicate_succ, Array.replicate_zero, List.push_toArray, List.append_toArray, List.nil_append, List.cons_append]
  gi_wp2_with (refine ⟨trivial, ?_⟩; gi_at_call 7; refine (callsIn_wide.2 (alive_any _)).mono ?_; rintro e w2 ⟨rfl, hB2⟩; have HB2 := Lib.hid hB2; have hz2 := hB2.size; clear hB2)
  gi_loopw [32] (fun i wr => ∃ k : Nat, i = .int .i64 k ∧ k ≤ len0 ∧ Hid (RI w w2.heap.size (lastAt (fun i => z.getD i 0) k) k wr))
    (fun i _ => len0 - (intOf i).toNat)
  case atStart => exact ⟨0, rfl, Nat.zero_le _, Lib.hid (RI.new HB2.out)⟩
  case round =>
    obtain ⟨k, rfl, hk, hR⟩ := hrel
    by_cases hlt : k < len0
    · have hI := H0.out.kept hR.out.below (Nat.le_refl _)
      have ha : a0 = some ⟨b, off, none⟩ := hI.addr.resolve_left (by omega)
      subst ha
      have c0 := hI.cell k hlt
      obtain ⟨x, hx⟩ : ∃ x, z.getD k 0 = x := ⟨_, rfl⟩
      rw [hx] at c0
      obtain ⟨L, hL, hLl, hLF⟩ := hR.out.map
      have HX := Lib.hid hx
      have HL := Lib.hid (And.intro hLl hLF)
      have HC := Lib.hid (mput_any x (k : Int) hL (by omega))
      clear hI hx hL hLl hLF
      gi_wp2_with (refine ⟨trivial, ?_⟩; gi_at_call 11; refine (callsIn_wide.2 HC.out).mono ?_; rintro e w3 ⟨rfl, hP⟩; have HR3 := Lib.hid (hR.out.put HL.out.1 HL.out.2 hz2 hP); clear hP)
      go_roundw
      case rel => exact ⟨k + 1, by go_num, by omega, Lib.hid (HR3.out.congr (fun q => by rw [← HX.out]; rfl) (Nat.le_refl _))⟩
      case measure => simp [intOf]; omega
    · obtain rfl : k = len0 := by omega
      obtain ⟨L0, hL0, hLl, hLF⟩ := hR.out.map
      have HLF := Lib.hid hLF
      have HLl := Lib.hid hLl
      have HSr := Lib.hid hL0.srt
      have HC := Lib.hid (all_any hL0 (by omega))
      have HL0 := Lib.hid hL0
      have hmb := hL0.lt
      clear hL0 hLl hLF
      obtain ⟨n8, hn8⟩ : ∃ n8, L0.length = n8 := ⟨_, rfl⟩
      have hn100 : n8 ≤ 100 := by have := HLl.out; omega
      have HN8 := Lib.hid hn8
      have HC' : Hid (Calls Try.prog 20 #[.pointer (some ⟨w2.heap.size, 0, none⟩)] wr fun e w' => ∃ a8 cp8 b8, e = .returned (.slice a8 n8 cp8) ∧ Hid (ItsAt w'.heap.size w' a8 b8 n8 L0 ∧ (n8 = 0 ∨ wr.heap.size ≤ b8) ∧ Below wr.heap.size wr w') ∧ n8 ≤ cp8) := Lib.hid (HC.out.mono (fun e w' h => by
        obtain ⟨v8, rfl, hg8, hb3⟩ := h
        obtain ⟨a8, cp8, rfl⟩ := hg8.slice
        obtain ⟨b8, hI8, hc8, hb8⟩ := hg8.sits rfl
        rw [hn8] at hI8 hc8 hb8
        exact ⟨a8, cp8, b8, by rw [hn8], Lib.hid ⟨hI8, hb8, hb3⟩, hc8⟩))
      clear hn8 HC
      gi_wp2_with (refine ⟨trivial, ?_⟩; gi_at_call 20; refine (callsIn_wide.2 HC'.out).mono ?_; rintro e w3 ⟨a8, cp8, b8, rfl, H8, hc8⟩)
      have hz3 := H8.out.2.2.size
      have HL3 := Lib.hid (HL0.out.below H8.out.2.2)
      have HB3 := Lib.hid (hR.out.below.trans (H8.out.2.2.mono hR.out.size))
      clear HC'
      gi_loopw [44] (fun i wr => ∃ j : Nat, i = .int .i64 j ∧ j ≤ n8 ∧ Hid (Turned (fun _ => False) w3 wr))
        (fun i _ => n8 - (intOf i).toNat)
      case atStart => exact ⟨0, rfl, Nat.zero_le _, Lib.hid (Turned.refl _ _)⟩
      case round =>
        obtain ⟨j, rfl, hj, hT⟩ := hrel
        by_cases hlt : j < n8
        · obtain ⟨x, q, hx1, hq1, hq2, hk1, hv1, ho1, hr1, hs1⟩ := row_facts z HSr.out (by rw [HLZ.out]; exact HLF.out) (i := j) (by rw [HN8.out]; exact hlt)
          have hz := hT.out.size
          have hI8 := H8.out.1.turned hT.out (Nat.le_refl _) (.inr id)
          have ha8 : a8 = some ⟨b8, 0, none⟩ := hI8.addr.resolve_left (by omega)
          subst ha8
          obtain ⟨c0, c1⟩ := hI8.cell j hlt
          rw [hx1] at c0 c1
          have s0 := hI8.cell (j - 1) (by omega)
          have hIk := H0.out.kept (below_calm HB3.out hT.out (by have := HB3.out.size; omega)) (Nat.le_refl _)
          rw [HLZ.out] at hq1
          have ha : a0 = some ⟨b, off, none⟩ := hIk.addr.resolve_left (by omega)
          subst ha
          have k0 := hIk.cell q hq1
          rw [hq2] at k0
          have HM := Lib.hid (HL3.out.calm hT.out)
          have t1 : Turned (fun _ => False) wr (wr.alloc (.cells #[.int .i64 x, .int .i64 (q : Int)] 42)) := Turned.alloc _ _ _
          have HA := Lib.hid (mat_lit (bv := true) (k := x) (v := (q : Int)) (j : Int) (HM.out.calm t1) (by omega) (by have := HN8.out; omega) hk1 hv1 ho1)
          have hlz0 := hR.out.below.size
          have HF : Hid (∀ W, Turned (fun _ => False) (wr.alloc (.cells #[.int .i64 x, .int .i64 (q : Int)] 42)) W → W.cell? ⟨wr.heap.size, 0, none⟩ = some (.int .i64 x) ∧ W.cell? ⟨wr.heap.size, 1, none⟩ = some (.int .i64 (q : Int)) ∧ W.cell? ⟨b8, (j - 1) * 2, none⟩ = some (.int .i64 (L0.getD (j - 1) default).1) ∧ W.cell? ⟨b, off + q, none⟩ = some (.int .i64 x) ∧
              Hid (Turned (fun _ => False) wr W) ∧ Hid (Calls Try.prog 10 #[.pointer (some ⟨w2.heap.size, 0, none⟩), .int .i64 x] W fun e w' => e = .returned (.int .i64 (j : Int)) ∧ W = w')) := Lib.hid (fun W hW => by
            have hx := hW.old (World.alloc_heap_new wr (.cells #[.int .i64 x, .int .i64 (q : Int)] 42)) id
            have hb := below_of_turned (t1.trans hW)
            exact ⟨heap_cell hx rfl, heap_cell hx rfl, (hb.cell (p := ⟨b8, (j - 1) * 2, none⟩) (by have := H8.out.1.below; show b8 < wr.heap.size; omega)).trans s0.1,
              (hb.cell (p := ⟨b, off + q, none⟩) (by have := H0.out.below; have := HB3.out.size; show b < wr.heap.size; omega)).trans k0, Lib.hid (t1.trans hW), Lib.hid (mrank_lit (r := (j : Int)) x (HM.out.calm (t1.trans hW)) (by have := HN8.out; omega) hr1)⟩)
          have hd1 : decide ((q : Int) < 0) = false := by simp
          have hd2 : decide ((k : Int) ≤ (q : Int)) = false := by simp; omega
          have hd2' : decide (k ≤ q) = false := by simp; omega
          have hqk : (q : Int) < (k : Int) := by omega
          have HS1 := Lib.hid hs1
          clear hI8 hIk s0 k0 hx1 hq2 hk1 hv1 ho1 hr1 t1 hs1
          by_cases hj0 : j = 0
          · subst hj0
            gi_wp2_with (first
              | (refine ⟨trivial, ?_⟩; gi_at_call 16; refine (callsIn_wide.2 HA.out).mono ?_; rintro e w5 ⟨rfl, ht5⟩; obtain ⟨p0, p1, l0, k0, HT5, HR5⟩ := HF.out w5 ht5; clear ht5)
              | (refine ⟨trivial, ?_⟩; gi_at_call 10; refine (callsIn_wide.2 HR5.out).mono ?_; rintro e w6 ⟨rfl, rfl⟩))
            go_roundw
            case rel => exact ⟨0 + 1, by go_num, by omega, Lib.hid (hT.out.trans HT5.out)⟩
            case measure => simp [intOf]; omega
          · have hjp : decide ((0 : Int) < (j : Int)) = true := by simp; omega
            have hjn : decide (0 < j) = true := by simp; omega
            have hj1 : (0 : Int) ≤ (j : Int) - 1 := by omega
            have hj2 : (j : Int) - 1 < (n8 : Int) := by omega
            have hj3 : ((j : Int) - 1).toNat = j - 1 := by omega
            obtain ⟨p9, hp9⟩ : ∃ p9, (L0.getD (j - 1) default).1 = p9 := ⟨_, rfl⟩
            have hs9 := HS1.out (by omega)
            rw [hp9] at hs9 HF
            have he9 : decide (x ≤ p9) = false := by simp; omega
            clear hs9 hp9 HS1
            gi_wp2_with (first
              | (refine ⟨trivial, ?_⟩; gi_at_call 16; refine (callsIn_wide.2 HA.out).mono ?_; rintro e w5 ⟨rfl, ht5⟩; obtain ⟨p0, p1, l0, k0, HT5, HR5⟩ := HF.out w5 ht5; clear ht5)
              | (refine ⟨trivial, ?_⟩; gi_at_call 10; refine (callsIn_wide.2 HR5.out).mono ?_; rintro e w6 ⟨rfl, rfl⟩))
            go_roundw
            case rel => exact ⟨j + 1, by go_num, by omega, Lib.hid (hT.out.trans HT5.out)⟩
            case measure => simp [intOf]; omega
        · obtain rfl : j = n8 := by omega
          have hz := hT.out.size
          have HM := Lib.hid (HL3.out.calm hT.out)
          have HBr := Lib.hid (below_calm HB3.out hT.out (by have := HB3.out.size; omega))
          have HI8 := Lib.hid (H8.out.1.turned hT.out (Nat.le_refl _) (.inr id))
          have HC1 := Lib.hid (mclone_any HM.out)
          gi_wp2_with fail
          refine ⟨trivial, (callsIn_wide.2 HC1.out).mono ?_⟩
          clear HC1
          rintro e w4 ⟨mc, rfl, hmc, hM4, ht4⟩
          have HM4 := Lib.hid hM4
          have HT4 := Lib.hid ht4
          have hz4 := ht4.size
          have HL4 := Lib.hid (HM.out.calm ht4)
          have HB4 := Lib.hid (below_calm HBr.out ht4 (by have := HBr.out.size; omega))
          have HI84 := Lib.hid (HI8.out.turned ht4 hz (.inr id))
          have HALL := Lib.hid (mall_any HL4.out (Below.refl _ _) (by have := HN8.out; omega))
          have hmc4 := hM4.lt
          clear hM4 ht4
          gi_wp2_with fail
          refine ⟨trivial, (callsIn_wide.2 HALL.out).mono ?_⟩
          clear HALL
          rintro e w5 ⟨sv, rfl, hsq, hb5⟩
          have HO5 := Lib.hid (show OW w w2.heap.size mc b8 w3.heap.size j a8 sv w4.heap.size L0 (lastAt (fun i => z.getD i 0) k) 100 w5 from
            ⟨⟨HB4.out.trans (hb5.mono HB4.out.size), L0, HL4.out.below hb5, by have := HN8.out; omega, HLF.out⟩, HM4.out.below hb5, hsq, HI84.out.kept hb5 (Nat.le_trans hz hz4), Nat.le_trans (Nat.le_trans hz hz4) hb5.size⟩)
          have hz5 := hb5.size
          have HB5 := Lib.hid hb5
          clear hsq hb5
          have HC2 := Lib.hid (mput_any v1 (-1) (L := L0) (HL4.out.below HB5.out) (by have := HN8.out; omega))
          gi_wp2_with fail
          refine ⟨trivial, (callsIn_wide.2 HC2.out).mono ?_⟩
          clear HC2
          rintro e w6 ⟨rfl, hP⟩
          have HO6 := Lib.hid (HO5.out.turned (by omega) (by have := H8.out.2.1; omega) hP (HO5.out.ri.put (by have := HN8.out; omega) HLF.out hz2 hP))
          clear hP
          gi_wp2
          gi_loopw [114] (fun i wr' => ∃ q : Nat, i = .int .i64 q ∧ q ≤ k ∧ Hid (OW w w2.heap.size mc b8 w3.heap.size j a8 sv w4.heap.size L0 (Fd z (fun x => if x = v1 then some (-1) else lastAt (fun i => z.getD i 0) k x) q) 101 wr'))
            (fun i _ => k - (intOf i).toNat)
          case atStart => exact ⟨0, rfl, Nat.zero_le _, Lib.hid ⟨HO6.out.ri.congr (fun x => by simp [Fd]) (by omega), HO6.out.cop, HO6.out.seq, HO6.out.was, HO6.out.size⟩⟩
          case round =>
            rename_i wq
            obtain ⟨q, rfl, hq, hO⟩ := hrel
            by_cases hlt : q < k
            · have hI := H0.out.kept hO.out.ri.below (Nat.le_refl _)
              have ha : a0 = some ⟨b, off, none⟩ := hI.addr.resolve_left (by omega)
              subst ha
              have c0 := hI.cell q hlt
              obtain ⟨x, hx⟩ : ∃ x, z.getD q 0 = x := ⟨_, rfl⟩
              rw [hx] at c0
              obtain ⟨L, hL, hLl, hLF2⟩ := hO.out.ri.map
              have HX := Lib.hid hx
              have HL := Lib.hid (And.intro hLl hLF2)
              have HC := Lib.hid (mdrop_any x hL (by omega))
              clear hI hx hL hLl hLF2
              gi_wp2_with fail
              refine ⟨trivial, (callsIn_wide.2 HC.out).mono ?_⟩
              rintro e w7 ⟨rfl, hP⟩
              have HO7 := Lib.hid (hO.out.turned (by omega) (by have := H8.out.2.1; omega) hP (hO.out.ri.drop HL.out.1 HL.out.2 hz2 hP))
              clear hP HC
              gi_wp2
              go_roundw
              case rel => exact ⟨q + 1, by go_num, by omega, Lib.hid ⟨HO7.out.ri.congr (fun p => by rw [← HX.out]; exact Fd_succ z _ (by rw [HLZ.out]; exact hlt) p) (Nat.le_refl _), HO7.out.cop, HO7.out.seq, HO7.out.was, HO7.out.size⟩⟩
              case measure => simp [intOf]; omega
            · obtain rfl : q = k := by omega
              gi_wp2
              obtain ⟨i0, hi, hz0, hz1, hz2'⟩ := info_parts Try.infoPair
              have HI := Lib.hid hi
              have HZ0 := Lib.hid hz0
              have HZ1 := Lib.hid hz1
              have HZ2 := Lib.hid hz2'
              clear hi hz0 hz1 hz2'
              have bn : Below wr.heap.size wr ((wr.alloc (.cells #[] 42)).alloc (.cells #[.slice (some ⟨wr.heap.size, 0, none⟩) 0 0] 27)) := ((Below.refl _ wr).alloc (Nat.le_refl _) _).alloc (by simp) _
              have hzw : w4.heap.size ≤ wr.heap.size := by
                obtain ⟨_, _, _, _, _, _, _, _, _, _, _, _, h8⟩ := hO.out.seq
                exact h8
              have hsq := (hO.out.seq.below bn).mono (n₁ := wr.heap.size) hzw (by simp; omega)
              have bO : Boxed ((wr.alloc (.cells #[] 42)).alloc (.cells #[.slice (some ⟨wr.heap.size, 0, none⟩) 0 0] 27)) (wr.heap.size + 1) 27 (.slice (some ⟨wr.heap.size, 0, none⟩) 0 0) := by
                have := Boxed.new (wr.alloc (.cells #[] 42)) 27 (.slice (some ⟨wr.heap.size, 0, none⟩) 0 0)
                rwa [World.size_alloc] at this
              obtain ⟨w9, hw9⟩ : ∃ w9, ((wr.alloc (.cells #[] 42)).alloc (.cells #[.slice (some ⟨wr.heap.size, 0, none⟩) 0 0] 27)) = w9 := ⟨_, rfl⟩
              have hz9 : w9.heap.size = wr.heap.size + 1 + 1 := by rw [← hw9]; simp
              rw [hw9] at bn hsq bO ⊢
              have hC0 : Bag w9.heap.size (wr.heap.size + 1) 27 42 2 [] wr.heap.size wr 0 [] w9 (.slice (some ⟨wr.heap.size, 0, none⟩) 0 0) := ⟨bO, .inl ⟨rfl, rfl, _, rfl⟩, fun x hx => by simp at hx, bn, Nat.le_refl _⟩
              obtain ⟨lb, rfl, hst⟩ := hsq.stops 2
              have hln8 : L0.length ≤ 100 := by have := HN8.out; omega
              clear hw9
              refine' wpIn_rangeFunc_ownG rfl (by omega) (gf := 47) (lb := lb) rfl trivial (enters_of Try.func47 (by kernel_rfl) rfl)
                hst belowK_t (belowK_b (by omega)) (Below.refl _ _) (fun _ => rfl)
                (fun pre W => BagI w9.heap.size (wr.heap.size + 1) 27 42 2 [] wr.heap.size wr pre.length (its pre) W)
                (fun _ _ _ => False)
                (fun s A B row hs hg hr => hs.elim fun v hC => ⟨v, hC.turned (by omega) hg hr⟩)
                (fun _ _ _ _ _ hs _ _ => hs)
                ⟨_, hC0⟩
                _ ?assign ?body ?done ?stop
              case assign =>
                intro l x W K hK
                unfold encP
                gi_wp2
                exact hK
              case body =>
                rintro l pre x W ⟨v, hC⟩ hlt
                obtain ⟨a6, cap6, rfl⟩ := hC.row.slice
                have c1 := hC.box.cell
                have HC := Lib.hid hC
                have hszW := hC.size
                clear hC hC0 bO hst hsq bn
                gi_wp2_with (gi_at_builtin; refine wpListIn_append_gath _ rfl _ _ 27 rfl w9.heap.size 42 i0 (.agg #[.int .i64 0, .int .i64 0]) 2 16 Try.underlying27 HI.out HZ0.out HZ1.out HZ2.out rfl (by decide) _ _ _ rfl (HC.out.row.alloc _) ⟨W.heap.size, 0, none⟩ 1 1 (its [x]) rfl rfl (cell_two _ _ _) (its_one _) (by decide) (by unfold maxLen; omega) (by omega) (by simp; omega) ?_; intro v' w3 row hown hgrow hrow; obtain ⟨g', cap', rfl⟩ := ownsRow_succ hown; obtain ⟨hb1, hC1, hk1, hm1⟩ := HC.out.appended (by omega) (by omega) (fun x hx => by simp at hx) hown hgrow hrow; have hc1 := hb1.cell; have hf1 := hb1.frozen)
                refine ⟨hk1.from _, hm1, .slice (some ⟨g', 0, none⟩) (pre.length + 1) cap', ?_⟩
                rw [List.length_append, its_snoc]
                exact hC1
              case done =>
                rintro E ys W hD hys ⟨v, hC⟩ hK
                rw [hys] at hC
                clear hys
                rw [HN8.out] at hC
                obtain ⟨a6, cap6, rfl⟩ := hC.row.slice
                obtain ⟨b6, hI6, hc6, _⟩ := hC.row.sits HN8.out
                have hEW : E < W.heap.size := heap_lt hK
                have HOW := Lib.hid (hO.out.below hC.below)
                have hzW := hC.below.size
                have hsW := hC.size
                have HBX := Lib.hid hC.box
                have HI6 := Lib.hid hI6
                have HK := Lib.hid hK
                clear hC hC0 bO hst hsq bn hI6 hK hO
                gi_wp2
                gi_loopw [133] (fun i wr' => ∃ p : Nat, i = .int .i64 p ∧ p ≤ q ∧ Hid (Turned (fun _ => False) W wr'))
                  (fun i _ => q - (intOf i).toNat)
                case atStart => exact ⟨0, rfl, Nat.zero_le _, Lib.hid (Turned.refl _ _)⟩
                case round =>
                  obtain ⟨p, rfl, hp, hT2⟩ := hrel
                  have HOp := Lib.hid (HOW.out.below (below_of_turned hT2.out))
                  have hzp := hT2.out.size
                  obtain ⟨L, hL, hLl, hLF2⟩ := HOp.out.ri.map
                  by_cases hlt : p < q
                  · have hI := H0.out.kept HOp.out.ri.below (Nat.le_refl _)
                    have ha : a0 = some ⟨b, off, none⟩ := hI.addr.resolve_left (by omega)
                    subst ha
                    have c0 := hI.cell p hlt
                    obtain ⟨x, hx⟩ : ∃ x, z.getD p 0 = x := ⟨_, rfl⟩
                    rw [hx] at c0
                    have hgx : get ltI x L = none := by
                      rw [hLF2]
                      unfold Fd
                      rw [if_pos (by rw [List.take_of_length_le (by rw [HLZ.out]; exact Nat.le_refl _), ← hx]; exact getD_mem z (by rw [HLZ.out]; exact hlt))]
                    have HC := Lib.hid (mget_lit (bv := false) (v := 0) x hL (by unfold getV; rw [hgx]; rfl) (by rw [hgx]; rfl))
                    clear hI hx hL hLl hLF2 hgx
                    gi_wp2_with fail
                    refine ⟨trivial, (callsIn_wide.2 HC.out).mono ?_⟩
                    rintro e w11 ⟨rfl, ht⟩
                    have HT := Lib.hid (hT2.out.trans ht)
                    clear ht HC
                    gi_wp2
                    go_roundw
                    case rel => exact ⟨p + 1, by go_num, by omega, HT⟩
                    case measure => simp [intOf]; omega
                  · obtain rfl : p = q := by omega
                    have hL1 : L.length ≤ 1 := one_left z v1 hL.srt (fun x => by rw [hLF2, HLZ.out])
                    have HLl := Lib.hid hL1
                    have HLM := Lib.hid hL
                    have HC := Lib.hid (all_any HOp.out.cop (by have := HN8.out; omega))
                    have HBX2 := Lib.hid (hT2.out.old HBX.out id)
                    have HK2 := Lib.hid (hT2.out.old HK.out id)
                    have HI62 := Lib.hid (HI6.out.turned hT2.out (Nat.le_refl _) (.inr id))
                    have hn8 := HN8.out
                    clear hL hLl hLF2 hL1
                    gi_wp2_with fail
                    refine ⟨trivial, (callsIn_wide.2 HC.out).mono ?_⟩
                    rintro e w11 ⟨v11, rfl, hg11, hb11⟩
                    obtain ⟨a11, cp11, rfl⟩ := hg11.slice
                    obtain ⟨b11, hI11, hc11, _⟩ := hg11.sits rfl
                    rw [hn8] at hI11 hc11
                    have HO11 := Lib.hid (HOp.out.below hb11)
                    have HL11 := Lib.hid (HLM.out.below hb11)
                    have HBX11 := Lib.hid (heap_below HBX2.out hb11 (heap_lt HBX2.out))
                    have HK11 := Lib.hid (heap_below HK2.out hb11 (heap_lt HK2.out))
                    have HI611 := Lib.hid (HI62.out.kept hb11 (by omega))
                    have hz11 := hb11.size
                    have HSm := Lib.hid (same_any (cap := cp11) (cap' := cp8) hI11 (HO11.out.was.mono HO11.out.size) (by omega) (by omega) (Nat.le_refl _))
                    simp only [decide_true] at HSm
                    rw [hn8]
                    clear hg11 hb11 hI11 hn8 HC
                    gi_wp2_with fail
                    refine ⟨trivial, (callsIn_wide.2 HSm.out).mono ?_⟩
                    rintro e w12 ⟨rfl, hb12⟩
                    have HO12 := Lib.hid (HO11.out.below hb12)
                    have HL12 := Lib.hid (HL11.out.below hb12)
                    have HK12 := Lib.hid (heap_below HK11.out hb12 (heap_lt HK11.out))
                    have bx := heap_below HBX11.out hb12 (heap_lt HBX11.out)
                    have c1 := Boxed.cell (show Boxed w12 _ 27 (.slice a6 j cap6) from bx)
                    have HSn := Lib.hid (same_any (cap := cap6) (cap' := cp8) ((HI611.out.kept hb12 (by omega)).mono (Nat.le_trans (by omega) hb12.size)) (HO12.out.was.mono HO12.out.size) (by omega) (by omega) (Nat.le_refl _))
                    simp only [decide_true] at HSn
                    clear hb12 HSm bx
                    gi_wp2_with fail
                    refine ⟨trivial, (callsIn_wide.2 HSn.out).mono ?_⟩
                    rintro e w13 ⟨rfl, hb13⟩
                    have HO13 := Lib.hid (HO12.out.below hb13)
                    have HL13 := Lib.hid (HL12.out.below hb13)
                    have HK13 := Lib.hid (heap_below HK12.out hb13 (heap_lt HK12.out))
                    clear hb13 HSn c1
                    obtain ⟨n1, hn1⟩ : ∃ n1, L.length = n1 := ⟨_, rfl⟩
                    have HCl := Lib.hid (mlen_any HL13.out)
                    rw [hn1] at HCl HLl
                    have hn11 := HLl.out
                    have hd1 : decide ((n1 : Int) ≤ 1) = true := by simp; omega
                    have hd1' : decide (n1 ≤ 1) = true := by simp; omega
                    clear hn1
                    gi_wp2_with fail
                    refine ⟨trivial, (callsIn_wide.2 HCl.out).mono ?_⟩
                    rintro e w14 ⟨rfl, rfl⟩
                    gi_wp2
                    refine ⟨by simp, .inl ⟨_, _, rfl, run_takeDeferred HK13.out, ?_⟩⟩
                    exact ⟨_, results_tmp rfl _ _ _, rfl, HO13.out.ri.below.trans (belowK_b (w := w) (Nat.le_refl _) _ E _ _ (by have := HB4.out.size; omega) HK13.out rfl rfl)⟩
              case stop =>
                rintro E c pre W _ _ h _
                exact h.elim
end Go.Proofs.Ytjbkfopfckphjaa
