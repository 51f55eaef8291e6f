/- The walk of RankedTexts. -/
import Derived.Test.YtpoillgnkmpknaaSo
import Derived.Test.YtpoillgnkmpknaaTo
import Derived.Test.YtpoillgnkmpknaaAr
set_option linter.unusedVariables false
set_option linter.unusedSectionVars false
namespace Go.Proofs.Ytpoillgnkmpknaa.Ss
open Go.RowKit Go.Shelf Rk

attribute [local go_sem] Oper.semAt_some

theorem boxed_alloc2 (w : World) (u : Value) (t : TypeId) (o2 : Obj) {w1 : World} (hb : Below (w.heap.size + 1 + 1) ((w.alloc (.cells #[u] t)).alloc o2) w1) : Boxed w1 w.heap.size t u :=
  (hb.block w.heap.size (by omega)).trans ((Boxed.new w t u).alloc o2)

/-- The map, and the two boxes of the law: what is sought from, and the answer. -/
structure LW (w : World) (mb : Nat) (fr : ByteArray) (F : ByteArray → Option Int) (n : Nat) (wr : World) : Prop where
  ri : RI w mb F n wr
  asks : Boxed wr w.heap.size 9 (.string fr)
  ends : Boxed wr (w.heap.size + 1) 4 (.bool false)
theorem LW.put {w : World} {mb : Nat} {fr : ByteArray} {F : ByteArray → Option Int} {n : Nat} {wr w' : World} {L : List (ByteArray × Int)} {k : ByteArray} {v : Int} (h : LW w mb fr F n wr) (hL : L.length ≤ n) (hF : ∀ x, get ltS x L = F x) (hmb : w.heap.size + 1 + 1 ≤ mb) (hP : PutW mb 0 (ins ltS k v L) wr w') : LW w mb fr (fun x => if x = k then some v else F x) (n + 1) w' :=
  ⟨h.ri.put hL hF (by omega) hP, hP.turned.old h.asks (by show ¬ w.heap.size = mb; omega), hP.turned.old h.ends (by show ¬ w.heap.size + 1 = mb; omega)⟩
theorem LW.congr {w : World} {mb : Nat} {fr : ByteArray} {F F' : ByteArray → Option Int} {n n' : Nat} {wr : World} (h : LW w mb fr F n wr) (hF : ∀ x, F x = F' x) (hn : n ≤ n') : LW w mb fr F' n' wr := ⟨h.ri.congr hF hn, h.asks, h.ends⟩

/-- The map behind the first loop: n keys, and each of the row is there. -/
structure LM (w : World) (mb : Nat) (fr : ByteArray) (n : Nat) (z : List ByteArray) (L : List (ByteArray × Int)) (wr : World) : Prop where
  below : Below w.heap.size w wr
  map : IsM wr mb 0 L
  len : L.length = n
  has : ∀ q, q < z.length → (get ltS (z.getD q ByteArray.empty) L).isSome = true
  asks : Boxed wr w.heap.size 9 (.string fr)
  ends : Boxed wr (w.heap.size + 1) 4 (.bool false)
theorem LM.put {w : World} {mb : Nat} {fr : ByteArray} {n : Nat} {z : List ByteArray} {wr w' : World} {L : List (ByteArray × Int)} {k : ByteArray} {v : Int} (h : LM w mb fr n z L wr) (hk : (get ltS k L).isSome = true) (hmb : w.heap.size + 1 + 1 ≤ mb) (hP : PutW mb 0 (ins ltS k v L) wr w') : LM w mb fr n z (ins ltS k v L) w' :=
  ⟨below_turned h.below hP.turned (fun i _ e => by omega) h.below.size, hP.map, by rw [(again h.map.srt hk v).2.1, h.len], fun q hq => by
    rw [get_ins linS]
    split
    · rfl
    · exact h.has q hq, hP.turned.old h.asks (by show ¬ w.heap.size = mb; omega), hP.turned.old h.ends (by show ¬ w.heap.size + 1 = mb; omega)⟩
theorem LM.calm {w : World} {mb : Nat} {fr : ByteArray} {n : Nat} {z : List ByteArray} {wr w' : World} {L : List (ByteArray × Int)} (h : LM w mb fr n z L wr) (ht : Turned (fun _ => False) wr w') : LM w mb fr n z L w' :=
  ⟨below_turned h.below ht (fun i _ e => e.elim) h.below.size, h.map.calm ht, h.len, h.has, ht.old h.asks id, ht.old h.ends id⟩
theorem LW.whole {w : World} {mb : Nat} {fr : ByteArray} {z : List ByteArray} {wr : World} (h : LW w mb fr (lastAt (fun i => z.getD i ByteArray.empty) z.length) z.length wr) : ∃ L, LM w mb fr L.length z L wr ∧ L.length ≤ z.length := by
  obtain ⟨L, h1, h2, h3⟩ := h.ri.map
  exact ⟨L, ⟨h.ri.below, h1, rfl, fun q hq => by rw [h3]; exact lastAt_isSome (key := fun i => z.getD i ByteArray.empty) hq, h.asks, h.ends⟩, h2⟩

set_option maxRecDepth 100000 in
set_option maxHeartbeats 4000000 in
theorem walk_long (a0 : Option Addr) (len0 cap0 : Nat) (ss0 : List ByteArray) (fr : ByteArray) (w : World) (w0 : IsStrs w a0 len0 cap0 ss0) (w1 : fr.size ≤ maxLen) (h60 : 60 < len0) :
    Calls Try.prog 3 #[.slice a0 len0 cap0, .string fr] w fun e w' => e = .returned (.bool true) ∧ Below w.heap.size w w' := by
  have h60' : (60 : Int) < (len0 : Int) := by omega
  refine (callsIn_wide (n := 3)).1 ?_
  refine callsIn_of_wp_marks Try.func3 rfl trivial ?_ rfl
  simp only [Try.ntmps3, List.size_toArray, List.length_cons, List.length_nil, Nat.reduceAdd, Nat.reduceSub, Array.replicate_succ, Array.replicate_zero, List.push_toArray, List.append_toArray, List.nil_append, List.cons_append]
  gi_wp2_with (refine ⟨trivial, ?_⟩; gi_at_call 4; refine (callsIn_wide.2 (alive_any _)).mono ?_; rintro e w2 ⟨rfl, hB2⟩; have b4 := boxed_alloc1 (w.alloc (.cells #[.string fr] 9)) (.bool false) 4 (by simpa using hB2); simp only [World.size_alloc] at b4; have c4 := b4.cell; have f4 := b4.frozen; have HB2 := Lib.hid hB2; clear hB2)
  have r4 := (b4.set (.bool true)).cell
  exact ⟨.bool true, by simp [results, Try.f3, go_sem, r4], rfl, ((((Below.refl _ w).alloc (Nat.le_refl _) _).alloc (by simp) _).trans (HB2.out.mono (by simp; omega))).setCell (p := ⟨w.heap.size + 1, 0, none⟩) (by show w.heap.size ≤ w.heap.size + 1; omega) _⟩
set_option maxRecDepth 100000 in
set_option maxHeartbeats 4000000 in
theorem walk_wide (a0 : Option Addr) (len0 cap0 : Nat) (ss0 : List ByteArray) (fr : ByteArray) (w : World) (w0 : IsStrs w a0 len0 cap0 ss0) (w1 : fr.size ≤ maxLen) (h60 : ¬ 60 < len0) (h40 : 40 < fr.size) :
    Calls Try.prog 3 #[.slice a0 len0 cap0, .string fr] w fun e w' => e = .returned (.bool true) ∧ Below w.heap.size w w' := by
  have h60' : ¬ ((60 : Int) < (len0 : Int)) := by omega
  have h40' : (40 : Int) < (fr.size : Int) := by omega
  refine (callsIn_wide (n := 3)).1 ?_
  refine callsIn_of_wp_marks Try.func3 rfl trivial ?_ rfl
  simp only [Try.ntmps3, List.size_toArray, List.length_cons, List.length_nil, Nat.reduceAdd, Nat.reduceSub, Array.replicate_succ, Array.replicate_zero, List.push_toArray, List.append_toArray, List.nil_append, List.cons_append]
  gi_wp2_with (refine ⟨trivial, ?_⟩; gi_at_call 4; refine (callsIn_wide.2 (alive_any _)).mono ?_; rintro e w2 ⟨rfl, hB2⟩; have b4 := boxed_alloc1 (w.alloc (.cells #[.string fr] 9)) (.bool false) 4 (by simpa using hB2); simp only [World.size_alloc] at b4; have b3 := boxed_alloc2 w (.string fr) 9 (.cells #[.bool false] 4) (by simpa using hB2); have c3 := b3.cell; have c4 := b4.cell; have f4 := b4.frozen; have HB2 := Lib.hid hB2; clear hB2)
  have r4 := (b4.set (.bool true)).cell
  exact ⟨.bool true, by simp [results, Try.f3, go_sem, r4], rfl, ((((Below.refl _ w).alloc (Nat.le_refl _) _).alloc (by simp) _).trans (HB2.out.mono (by simp; omega))).setCell (p := ⟨w.heap.size + 1, 0, none⟩) (by show w.heap.size ≤ w.heap.size + 1; omega) _⟩
set_option maxRecDepth 100000 in
set_option maxHeartbeats 4000000 in
theorem walk_main (a0 : Option Addr) (len0 cap0 : Nat) (ss0 : List ByteArray) (fr : ByteArray) (w : World) (w0 : IsStrs w a0 len0 cap0 ss0) (w1 : fr.size ≤ maxLen) (h60 : ¬ 60 < len0) (h40 : ¬ 40 < fr.size) :
    Calls Try.prog 3 #[.slice a0 len0 cap0, .string fr] w fun e w' => e = .returned (.bool true) ∧ Below w.heap.size w w' := by
  have h60' : ¬ ((60 : Int) < (len0 : Int)) := by omega
  have h40' : ¬ ((40 : Int) < (fr.size : Int)) := by omega
  obtain ⟨b, off, hi⟩ := w0.strs
  have hm := hi.small
  unfold maxLen at hm
  have H0 := Lib.hid hi
  have hlz := hi.length
  clear hi w0 w1
  generalize ss0.take len0 = z at *
  have HLZ := Lib.hid hlz
  clear hlz
  refine (callsIn_wide (n := 3)).1 ?_
  refine callsIn_of_wp_marks Try.func3 rfl trivial ?_ rfl
  simp only [Try.ntmps3, List.size_toArray, List.length_cons, List.length_nil, Nat.reduceAdd, Nat.reduceSub, Array.replicate_succ, Array.replicate_zero, List.push_toArray, List.append_toArray, List.nil_append, List.cons_append]
  gi_wp2_with (refine ⟨trivial, ?_⟩; gi_at_call 4; refine (callsIn_wide.2 (alive_any _)).mono ?_; rintro e w2 ⟨rfl, hB2⟩; have b4 := boxed_alloc1 (w.alloc (.cells #[.string fr] 9)) (.bool false) 4 (by simpa using hB2); simp only [World.size_alloc] at b4; have b3 := boxed_alloc2 w (.string fr) 9 (.cells #[.bool false] 4) (by simpa using hB2); have c3 := b3.cell; have c4 := b4.cell; have f4 := b4.frozen; have HB2 := Lib.hid ((((Below.refl _ w).alloc (Nat.le_refl _) _).alloc (by simp) _).trans (hB2.mono (by simp; omega))); have hz2 := hB2.size; simp only [World.size_alloc] at hz2; have HB34 := Lib.hid (And.intro b3 b4); clear hB2 b3 b4 c4 f4)
  gi_loopw [30] (fun i wr => ∃ k : Nat, i = .int .i64 k ∧ k ≤ len0 ∧ Hid (LW w w2.heap.size fr (lastAt (fun i => z.getD i ByteArray.empty) k) k wr))
    (fun i _ => len0 - (intOf i).toNat)
  case atStart => exact ⟨0, rfl, Nat.zero_le _, Lib.hid ⟨RI.new HB2.out, HB34.out.1.alloc _, HB34.out.2.alloc _⟩⟩
  case round =>
    obtain ⟨k, rfl, hk, hR⟩ := hrel
    clear c3
    by_cases hlt : k < len0
    · have hI := H0.out.kept hR.out.ri.below (Nat.le_refl _)
      have ha : a0 = some ⟨b, off, none⟩ := hI.addr.resolve_left (by omega)
      subst ha
      have c0 := hI.cell k hlt
      obtain ⟨x, hx⟩ : ∃ x, z.getD k ByteArray.empty = x := ⟨_, rfl⟩
      rw [hx] at c0
      obtain ⟨L, hL, hLl, hLF⟩ := hR.out.ri.map
      have HX := Lib.hid hx
      have HL := Lib.hid (And.intro hLl hLF)
      have HC := Lib.hid (mput_any x (k : Int) hL (by omega))
      clear hI hx hL hLl hLF
      by_cases hx40 : 40 < x.size
      · have hx40' : (40 : Int) < (x.size : Int) := by omega
        have b4 := hR.out.ends
        have c4 := b4.cell
        have f4 := b4.frozen
        gi_wp2
        have r4 := (b4.set (.bool true)).cell
        exact ⟨.bool true, by simp [results, Try.f3, go_sem, r4], rfl, hR.out.ri.below.setCell (p := ⟨w.heap.size + 1, 0, none⟩) (by show w.heap.size ≤ w.heap.size + 1; omega) _⟩
      · have hx40' : ¬ ((40 : Int) < (x.size : Int)) := by omega
        gi_wp2_with (refine ⟨trivial, ?_⟩; gi_at_call 5; refine (callsIn_wide.2 HC.out).mono ?_; rintro e w3 ⟨rfl, hP⟩; have HR3 := Lib.hid (hR.out.put HL.out.1 HL.out.2 hz2 hP); clear hP)
        go_roundw
        case rel => exact ⟨k + 1, by go_num, by omega, Lib.hid (HR3.out.congr (fun q => by rw [← HX.out]; rfl) (Nat.le_refl _))⟩
        case measure => simp [intOf]; omega
    · obtain rfl : k = len0 := by omega
      obtain ⟨L0, hM0, hn0⟩ := LW.whole (by have h := hR.out; rw [← HLZ.out] at h; exact h)
      rw [HLZ.out] at hn0
      have HLe := Lib.hid (mlen_any hM0.map)
      have HM0 := Lib.hid hM0
      generalize L0.length = n at *
      clear hM0
      gi_wp2_with (refine ⟨trivial, ?_⟩; gi_at_call 6; refine (callsIn_wide.2 HLe.out).mono ?_; rintro e _ ⟨rfl, rfl⟩)
      gi_loopw [45] (fun i wr => ∃ j : Nat, i = .int .i64 j ∧ j ≤ k ∧ Hid (∃ L, LM w w2.heap.size fr n z L wr))
        (fun i _ => k - (intOf i).toNat)
      case atStart => exact ⟨0, rfl, Nat.zero_le _, Lib.hid ⟨L0, HM0.out⟩⟩
      case round =>
        obtain ⟨j, rfl, hj, hR2⟩ := hrel
        by_cases hlt2 : j < k
        · obtain ⟨L, hM⟩ := hR2.out
          have hI := H0.out.kept hM.below (Nat.le_refl _)
          have ha : a0 = some ⟨b, off, none⟩ := hI.addr.resolve_left (by omega)
          subst ha
          have c0 := hI.cell j hlt2
          have hx0 := hM.has j (by rw [HLZ.out]; exact hlt2)
          obtain ⟨x, hx⟩ : ∃ x, z.getD j ByteArray.empty = x := ⟨_, rfl⟩
          rw [hx] at c0 hx0
          obtain ⟨a1, a2, a3, a4, a5, a6, a7⟩ := again hM.map.srt hx0 (-(j : Int))
          have hLn : L.length = n := hM.len
          have hP0 := mput_any x (-(j : Int)) hM.map (by omega)
          rw [a1] at hP0
          have HC : Hid (Calls Try.prog 5 #[.pointer (some ⟨w2.heap.size, 0, none⟩), .string x, .int .i64 (-(j : Int))] wr fun e w' => e = .returned (.bool false) ∧ Hid (LM w w2.heap.size fr n z (ins ltS x (-(j : Int)) L) w')) := Lib.hid (hP0.mono fun e w' h => ⟨h.1, Lib.hid (hM.put hx0 hz2 h.2)⟩)
          have HR1 := Lib.hid (mrank_any x hM.map (by omega))
          have hrn := rk_le (lt := ltS) x L
          generalize ins ltS x (-(j : Int)) L = L' at *
          generalize rk ltS x L = r at *
          have HR2 : Hid (∀ W, LM w w2.heap.size fr n z L' W → Calls Try.prog 7 #[.pointer (some ⟨w2.heap.size, 0, none⟩), .string x] W fun e w' => e = .returned (.int .i64 (r : Int)) ∧ W = w') := Lib.hid (fun W h => by rw [← a3]; exact mrank_any x h.map (by omega))
          have HL2 : Hid (∀ W, LM w w2.heap.size fr n z L' W → Calls Try.prog 6 #[.pointer (some ⟨w2.heap.size, 0, none⟩)] W fun e w' => e = .returned (.int .i64 (n : Int)) ∧ W = w') := Lib.hid (fun W h => by rw [← h.len]; exact mlen_any h.map)
          have HA2 : Hid (∀ W, LM w w2.heap.size fr n z L' W → Calls Try.prog 8 #[.pointer (some ⟨w2.heap.size, 0, none⟩), .int .i64 (r : Int)] W fun e w' => e = .returned (.tuple #[.string x, .int .i64 (-(j : Int)), .bool true]) ∧ Hid (LM w w2.heap.size fr n z L' w')) := Lib.hid (fun W h => (mat_any (r : Int) h.map (by omega) (by omega)).mono fun e w' h2 => ⟨by rw [h2.1, a5, a6, a7], Lib.hid (h.calm h2.2)⟩)
          clear hM hI hx0 hx a1 a2 a3 a4 a5 a6 a7 hLn hP0 hrn
          gi_wp2_with first
            | (refine ⟨trivial, ?_⟩; gi_at_call 5; refine (callsIn_wide.2 HC.out).mono ?_; clear HC; rintro e w3 ⟨rfl, hM3⟩)
            | (refine ⟨trivial, ?_⟩; gi_at_call 7; refine (callsIn_wide.2 (HR2.out _ hM3.out)).mono ?_; clear HR2; rintro e _ ⟨rfl, rfl⟩)
            | (refine ⟨trivial, ?_⟩; gi_at_call 7; refine (callsIn_wide.2 HR1.out).mono ?_; clear HR1; rintro e _ ⟨rfl, rfl⟩)
            | (refine ⟨trivial, ?_⟩; gi_at_call 6; refine (callsIn_wide.2 (HL2.out _ hM3.out)).mono ?_; clear HL2; rintro e _ ⟨rfl, rfl⟩)
            | (refine ⟨trivial, ?_⟩; gi_at_call 8; refine (callsIn_wide.2 (HA2.out _ hM3.out)).mono ?_; clear HA2; rintro e w4 ⟨rfl, hM4⟩)
          go_roundw
          case rel => exact ⟨j + 1, by go_num, by omega, Lib.hid ⟨L', hM4.out⟩⟩
          case measure => simp [intOf]; omega
        · obtain rfl : j = k := by omega
          obtain ⟨L, hM⟩ := hR2.out
          have bn : Below wr.heap.size wr ((wr.alloc (.cells #[.string ⟨#[]⟩] 9)).alloc (.cells #[.int .i64 0] 3)) := ((Below.refl _ wr).alloc (Nat.le_refl _) _).alloc (by simp) _
          have c3 := ((hM.asks.alloc (.cells #[.string ⟨#[]⟩] 9)).alloc (.cells #[.int .i64 0] 3)).cell
          have hLn : L.length ≤ 900000 := by rw [hM.len]; omega
          have HF := Lib.hid (mfrom_any fr hM.map bn hLn)
          have HM := Lib.hid hM
          clear hM bn hLn
          gi_wp2_with (refine ⟨trivial, ?_⟩; gi_at_call 9; refine (callsIn_wide.2 HF.out).mono ?_; clear HF; rintro e w5 ⟨v5, rfl, hsq, hB5⟩; have HS := Lib.hid hsq; have HB5 := Lib.hid hB5; have b15 := boxed_alloc2 wr (.string ⟨#[]⟩) 9 (.cells #[.int .i64 0] 3) (by simpa using hB5); have b16 := boxed_alloc1 (wr.alloc (.cells #[.string ⟨#[]⟩] 9)) (.int .i64 0) 3 (by simpa using hB5); rw [World.size_alloc] at b16; clear hsq hB5 c3)
          have hz5 := HB5.out.size
          simp only [World.size_alloc] at hz5
          have HBw : Hid (Below wr.heap.size wr w5) := Lib.hid ((((Below.refl _ wr).alloc (Nat.le_refl _) (.cells #[.string ⟨#[]⟩] 9)).alloc (by simp) (.cells #[.int .i64 0] 3)).trans (HB5.out.mono (by simp; omega)))
          obtain ⟨lb, rfl, hst⟩ := HS.out.stops 2
          have hnbad : ∀ pre, pre <+: L.drop (rk ltS fr L) → ¬ BadP fr pre := fun pre hp => notBad HM.out.map.srt hp
          have HNB := Lib.hid hnbad
          have hDl : (L.drop (rk ltS fr L)).length = n - rk ltS fr L := by rw [List.length_drop, HM.out.len]
          have hrn : rk ltS fr L ≤ n := by rw [← HM.out.len]; exact rk_le _ _
          have HR : Hid (∀ W, Below wr.heap.size wr W → Calls Try.prog 7 #[.pointer (some ⟨w2.heap.size, 0, none⟩), .string fr] W fun e w' => e = .returned (.int .i64 ((rk ltS fr L : Nat) : Int)) ∧ W = w') := Lib.hid (fun W hW => mrank_any fr (HM.out.map.below hW) (by rw [HM.out.len]; omega))
          clear hnbad HS
          generalize L.drop (rk ltS fr L) = D at *
          generalize rk ltS fr L = rr at *
          refine' wpIn_rangeFunc_ownG rfl (by omega) (gf := 37) (lb := lb) rfl trivial (enters_of Try.func37 (by kernel_rfl) rfl)
            hst belowK_t (belowK_b (by omega)) (Below.refl _ _) (fun _ => rfl)
            (fun pre W => Below wr.heap.size wr W ∧ Boxed W wr.heap.size 9 (.string (lastK pre)) ∧ Boxed W (wr.heap.size + 1) 3 (.int .i64 ((pre.length : Nat) : Int)))
            (fun c pre _ => c = .ret ∧ BadP fr pre)
            (OwnFrom.and (ownFrom_below (Nat.le_refl _) (by omega)) (OwnFrom.and (Own.from (boxed_own wr.heap.size 9 (fun pre => .string (lastK pre))) _) (Own.from (boxed_own (wr.heap.size + 1) 3 (fun pre : List (ByteArray × Int) => .int .i64 ((pre.length : Nat) : Int))) _)))
            (fun _ _ _ _ _ hs _ _ => hs)
            ⟨HBw.out, b15, b16⟩
            _ ?assign ?body ?done ?stop
          case assign =>
            intro l x W K hK
            unfold encP
            gi_wp2
            exact hK
          case body =>
            rintro l pre x W ⟨hB, h15, h16⟩ hlt
            have c3 := Boxed.cell (show Boxed W _ 9 _ from heap_below HM.out.asks hB (heap_lt HM.out.asks))
            have b4 : Boxed W (w.heap.size + 1) 4 (.bool false) := heap_below HM.out.ends hB (heap_lt HM.out.ends)
            have c4 := b4.cell
            have f4 := b4.frozen
            have c15 := h15.cell
            have c16 := h16.cell
            have f15 := h15.frozen
            have f16 := h16.frozen
            have HW := Lib.hid (And.intro hB (And.intro h15 h16))
            have hml := HM.out.below.size
            have hmb : w.heap.size + 1 < wr.heap.size := heap_lt HM.out.ends
            have hend : KeepsFrom w5.heap.size W (W.setCell ⟨w.heap.size + 1, 0, none⟩ (.bool false)) := (KeepsOthers.setCell _ _ _).from _
            have HEND := Lib.hid hend
            clear hB h15 h16 b15 b16 hst hend b4
            cases h1 : Op.bytesLess x.1.toList fr.toList with
            | true =>
              have HBD : Hid (BadP fr (pre ++ [x])) := Lib.hid ⟨pre, x, rfl, .inl h1⟩
              gi_wp2
              exact ⟨HEND.out, rfl, HBD.out⟩
            | false =>
              by_cases hp0 : 0 < pre.length
              · have hp1 : decide ((0 : Int) < (pre.length : Int)) = true := by simp; omega
                cases h2 : Op.bytesLess (lastK pre).toList x.1.toList with
                | false =>
                  have HBD : Hid (BadP fr (pre ++ [x])) := Lib.hid ⟨pre, x, rfl, .inr ⟨hp0, h2⟩⟩
                  have h3 : (Op.bytesLess x.1.toList (lastK pre).toList || x.1.toList == (lastK pre).toList) = true := by
                    cases h4 : Op.bytesLess x.1.toList (lastK pre).toList with
                    | true => rfl
                    | false => rw [linS.tri _ _ h4 h2]; simp
                  gi_wp2
                  exact ⟨HEND.out, rfl, HBD.out⟩
                | true =>
                  have h3 : (Op.bytesLess x.1.toList (lastK pre).toList || x.1.toList == (lastK pre).toList) = false := by
                    have h4 : Op.bytesLess x.1.toList (lastK pre).toList = false := linS.asymm h2
                    have h5 : (x.1.toList == (lastK pre).toList) = false := by
                      cases h6 : (x.1.toList == (lastK pre).toList) with
                      | false => rfl
                      | true =>
                        have e := eq_of_beq h6
                        rw [e] at h2
                        have := linS.irr (lastK pre)
                        unfold ltS at this
                        rw [h2] at this; cases this
                    rw [h4, h5]; rfl
                  gi_wp2
                  refine region_round rfl (by kernel_rfl) rfl ?_
                  change wpAnyIn _ _ _ _ _ _ 5 _ _ (World.drew _)
                  refine wpAnyIn_take (i := 0) (v := .string x.1) rfl rfl (by kernel_rfl) (by kernel_rfl) (by kernel_rfl) (fun _ _ _ h => h) ⟨Or.inl ⟨by kernel_rfl, fun w => by go_simp⟩, fun _ => rfl⟩ ?_
                  simp only [List.getElem_toArray, List.getElem_cons_zero, Act.put, List.setIfInBounds_toArray, List.set_cons_zero, List.set_cons_succ]
                  have d16 : W.drew.cell? ⟨wr.heap.size + 1, 0, none⟩ = some (.int .i64 (pre.length : Int)) := c16
                  have hw16 : IntKind.i64.wrap ((pre.length : Int) + 1) = (pre.length : Int) + 1 := IntWalk.i64_in _ (by omega)
                  have e16 : ((W.setCell ⟨wr.heap.size, 0, none⟩ (.string x.1)).drew).cell? ⟨wr.heap.size + 1, 0, none⟩ = some (.int .i64 (pre.length : Int)) := (HW.out.2.2.other (by omega) _).cell
                  have g16 : ((W.setCell ⟨wr.heap.size, 0, none⟩ (.string x.1)).drew).frozen? ⟨wr.heap.size + 1, 0, none⟩ = false := (HW.out.2.2.other (by omega) _).frozen
                  have HFIN : Hid (KeepsFrom w5.heap.size W (((W.setCell ⟨wr.heap.size, 0, none⟩ (.string x.1)).setCell ⟨wr.heap.size + 1, 0, none⟩ (.int .i64 ((pre.length : Int) + 1))).drew) ∧ Below wr.heap.size W (((W.setCell ⟨wr.heap.size, 0, none⟩ (.string x.1)).setCell ⟨wr.heap.size + 1, 0, none⟩ (.int .i64 ((pre.length : Int) + 1))).drew) ∧ Below wr.heap.size wr (((W.setCell ⟨wr.heap.size, 0, none⟩ (.string x.1)).setCell ⟨wr.heap.size + 1, 0, none⟩ (.int .i64 ((pre.length : Int) + 1))).drew) ∧ Boxed (((W.setCell ⟨wr.heap.size, 0, none⟩ (.string x.1)).setCell ⟨wr.heap.size + 1, 0, none⟩ (.int .i64 ((pre.length : Int) + 1))).drew) wr.heap.size 9 (.string (lastK (pre ++ [x]))) ∧ Boxed (((W.setCell ⟨wr.heap.size, 0, none⟩ (.string x.1)).setCell ⟨wr.heap.size + 1, 0, none⟩ (.int .i64 ((pre.length : Int) + 1))).drew) (wr.heap.size + 1) 3 (.int .i64 (((pre ++ [x]).length : Nat) : Int))) := Lib.hid (by
                    have k1 : Below wr.heap.size W (((W.setCell ⟨wr.heap.size, 0, none⟩ (.string x.1)).setCell ⟨wr.heap.size + 1, 0, none⟩ (.int .i64 ((pre.length : Int) + 1))).drew) := (((Below.refl wr.heap.size W).setCell (p := ⟨wr.heap.size, 0, none⟩) (Nat.le_refl _) _).setCell (p := ⟨wr.heap.size + 1, 0, none⟩) (by show wr.heap.size ≤ wr.heap.size + 1; omega) _).drew
                    refine ⟨(((KeepsOthers.setCell _ _ _).trans (KeepsOthers.setCell _ _ _)).trans (KeepsOthers.drew _)).from _, k1, HW.out.1.trans k1, ?_, ?_⟩
                    · rw [lastK_snoc]
                      exact ((HW.out.2.1.set _).other (by omega) _)
                    · rw [List.length_append]
                      exact ((HW.out.2.2.other (by omega) _).set _))
                  clear c16 f16
                  have f16 := HW.out.2.2.frozen
                  refine wpAnyIn_ready (rs := [1, 3]) (by kernel_rfl) (by simp) (BigFrame.allReadyIn_want rfl (by kernel_rfl) ?_ (BigFrame.allReadyIn_want rfl (by kernel_rfl) ?_ AllReadyIn.nil))
                  · intro K' hK
                    simp only [List.getElem_toArray, List.getElem_cons_zero, List.getElem_cons_succ]
                    gi_big_op
                    refine hK _ _ ?_
                    clear hK K'
                    refine wpAnyIn_take (i := 2) (v := ?_) rfl rfl (by kernel_rfl) (by kernel_rfl) (by kernel_rfl) (fun _ _ _ h => h) ⟨Or.inl ⟨by kernel_rfl, ?_⟩, fun _ => rfl⟩ ?_
                    rotate_left
                    · intro w; go_simp; try with_reducible rfl
                    simp only [List.getElem_toArray, List.getElem_cons_zero, List.getElem_cons_succ, Act.put, List.setIfInBounds_toArray, List.set_cons_zero, List.set_cons_succ]
                    refine wpAnyIn_ready (rs := [3]) (by kernel_rfl) (by simp) (BigFrame.allReadyIn_want rfl (by kernel_rfl) ?_ AllReadyIn.nil)
                    intro K' hK
                    simp only [List.getElem_toArray, List.getElem_cons_zero, List.getElem_cons_succ]
                    gi_big_op
                    refine hK _ _ ?_
                    clear hK K'
                    refine wpAnyIn_ready (rs := [4]) (by kernel_rfl) (by simp) (BigFrame.allReadyIn_want rfl (by kernel_rfl) ?_ AllReadyIn.nil)
                    intro K' hK
                    simp only [List.getElem_toArray, List.getElem_cons_zero, List.getElem_cons_succ]
                    gi_big_op
                    refine hK _ _ ?_
                    clear hK K'
                    refine wpAnyIn_done (by kernel_rfl) ?_ _
                    gi_wp2
                    exact HFIN.out
                  · intro K' hK
                    simp only [List.getElem_toArray, List.getElem_cons_zero, List.getElem_cons_succ]
                    gi_big_op
                    refine hK _ _ ?_
                    clear hK K'
                    refine wpAnyIn_ready (rs := [1]) (by kernel_rfl) (by simp) (BigFrame.allReadyIn_want rfl (by kernel_rfl) ?_ AllReadyIn.nil)
                    intro K' hK
                    simp only [List.getElem_toArray, List.getElem_cons_zero, List.getElem_cons_succ]
                    gi_big_op
                    refine hK _ _ ?_
                    clear hK K'
                    refine wpAnyIn_take (i := 2) (v := ?_) rfl rfl (by kernel_rfl) (by kernel_rfl) (by kernel_rfl) (fun _ _ _ h => h) ⟨Or.inl ⟨by kernel_rfl, ?_⟩, fun _ => rfl⟩ ?_
                    rotate_left
                    · intro w; go_simp; try with_reducible rfl
                    simp only [List.getElem_toArray, List.getElem_cons_zero, List.getElem_cons_succ, Act.put, List.setIfInBounds_toArray, List.set_cons_zero, List.set_cons_succ]
                    refine wpAnyIn_ready (rs := [4]) (by kernel_rfl) (by simp) (BigFrame.allReadyIn_want rfl (by kernel_rfl) ?_ AllReadyIn.nil)
                    intro K' hK
                    simp only [List.getElem_toArray, List.getElem_cons_zero, List.getElem_cons_succ]
                    gi_big_op
                    refine hK _ _ ?_
                    clear hK K'
                    refine wpAnyIn_done (by kernel_rfl) ?_ _
                    gi_wp2
                    exact HFIN.out
              · have hp1 : decide ((0 : Int) < (pre.length : Int)) = false := decide_eq_false (by omega)
                gi_wp2
                refine region_round rfl (by kernel_rfl) rfl ?_
                change wpAnyIn _ _ _ _ _ _ 5 _ _ (World.drew _)
                refine wpAnyIn_take (i := 0) (v := .string x.1) rfl rfl (by kernel_rfl) (by kernel_rfl) (by kernel_rfl) (fun _ _ _ h => h) ⟨Or.inl ⟨by kernel_rfl, fun w => by go_simp⟩, fun _ => rfl⟩ ?_
                simp only [List.getElem_toArray, List.getElem_cons_zero, Act.put, List.setIfInBounds_toArray, List.set_cons_zero, List.set_cons_succ]
                have d16 : W.drew.cell? ⟨wr.heap.size + 1, 0, none⟩ = some (.int .i64 (pre.length : Int)) := c16
                have hw16 : IntKind.i64.wrap ((pre.length : Int) + 1) = (pre.length : Int) + 1 := IntWalk.i64_in _ (by omega)
                have e16 : ((W.setCell ⟨wr.heap.size, 0, none⟩ (.string x.1)).drew).cell? ⟨wr.heap.size + 1, 0, none⟩ = some (.int .i64 (pre.length : Int)) := (HW.out.2.2.other (by omega) _).cell
                have g16 : ((W.setCell ⟨wr.heap.size, 0, none⟩ (.string x.1)).drew).frozen? ⟨wr.heap.size + 1, 0, none⟩ = false := (HW.out.2.2.other (by omega) _).frozen
                have HFIN : Hid (KeepsFrom w5.heap.size W (((W.setCell ⟨wr.heap.size, 0, none⟩ (.string x.1)).setCell ⟨wr.heap.size + 1, 0, none⟩ (.int .i64 ((pre.length : Int) + 1))).drew) ∧ Below wr.heap.size W (((W.setCell ⟨wr.heap.size, 0, none⟩ (.string x.1)).setCell ⟨wr.heap.size + 1, 0, none⟩ (.int .i64 ((pre.length : Int) + 1))).drew) ∧ Below wr.heap.size wr (((W.setCell ⟨wr.heap.size, 0, none⟩ (.string x.1)).setCell ⟨wr.heap.size + 1, 0, none⟩ (.int .i64 ((pre.length : Int) + 1))).drew) ∧ Boxed (((W.setCell ⟨wr.heap.size, 0, none⟩ (.string x.1)).setCell ⟨wr.heap.size + 1, 0, none⟩ (.int .i64 ((pre.length : Int) + 1))).drew) wr.heap.size 9 (.string (lastK (pre ++ [x]))) ∧ Boxed (((W.setCell ⟨wr.heap.size, 0, none⟩ (.string x.1)).setCell ⟨wr.heap.size + 1, 0, none⟩ (.int .i64 ((pre.length : Int) + 1))).drew) (wr.heap.size + 1) 3 (.int .i64 (((pre ++ [x]).length : Nat) : Int))) := Lib.hid (by
                  have k1 : Below wr.heap.size W (((W.setCell ⟨wr.heap.size, 0, none⟩ (.string x.1)).setCell ⟨wr.heap.size + 1, 0, none⟩ (.int .i64 ((pre.length : Int) + 1))).drew) := (((Below.refl wr.heap.size W).setCell (p := ⟨wr.heap.size, 0, none⟩) (Nat.le_refl _) _).setCell (p := ⟨wr.heap.size + 1, 0, none⟩) (by show wr.heap.size ≤ wr.heap.size + 1; omega) _).drew
                  refine ⟨(((KeepsOthers.setCell _ _ _).trans (KeepsOthers.setCell _ _ _)).trans (KeepsOthers.drew _)).from _, k1, HW.out.1.trans k1, ?_, ?_⟩
                  · rw [lastK_snoc]
                    exact ((HW.out.2.1.set _).other (by omega) _)
                  · rw [List.length_append]
                    exact ((HW.out.2.2.other (by omega) _).set _))
                clear c16 f16
                have f16 := HW.out.2.2.frozen
                refine wpAnyIn_ready (rs := [1, 3]) (by kernel_rfl) (by simp) (BigFrame.allReadyIn_want rfl (by kernel_rfl) ?_ (BigFrame.allReadyIn_want rfl (by kernel_rfl) ?_ AllReadyIn.nil))
                · intro K' hK
                  simp only [List.getElem_toArray, List.getElem_cons_zero, List.getElem_cons_succ]
                  gi_big_op
                  refine hK _ _ ?_
                  clear hK K'
                  refine wpAnyIn_take (i := 2) (v := ?_) rfl rfl (by kernel_rfl) (by kernel_rfl) (by kernel_rfl) (fun _ _ _ h => h) ⟨Or.inl ⟨by kernel_rfl, ?_⟩, fun _ => rfl⟩ ?_
                  rotate_left
                  · intro w; go_simp; try with_reducible rfl
                  simp only [List.getElem_toArray, List.getElem_cons_zero, List.getElem_cons_succ, Act.put, List.setIfInBounds_toArray, List.set_cons_zero, List.set_cons_succ]
                  refine wpAnyIn_ready (rs := [3]) (by kernel_rfl) (by simp) (BigFrame.allReadyIn_want rfl (by kernel_rfl) ?_ AllReadyIn.nil)
                  intro K' hK
                  simp only [List.getElem_toArray, List.getElem_cons_zero, List.getElem_cons_succ]
                  gi_big_op
                  refine hK _ _ ?_
                  clear hK K'
                  refine wpAnyIn_ready (rs := [4]) (by kernel_rfl) (by simp) (BigFrame.allReadyIn_want rfl (by kernel_rfl) ?_ AllReadyIn.nil)
                  intro K' hK
                  simp only [List.getElem_toArray, List.getElem_cons_zero, List.getElem_cons_succ]
                  gi_big_op
                  refine hK _ _ ?_
                  clear hK K'
                  refine wpAnyIn_done (by kernel_rfl) ?_ _
                  gi_wp2
                  exact HFIN.out
                · intro K' hK
                  simp only [List.getElem_toArray, List.getElem_cons_zero, List.getElem_cons_succ]
                  gi_big_op
                  refine hK _ _ ?_
                  clear hK K'
                  refine wpAnyIn_ready (rs := [1]) (by kernel_rfl) (by simp) (BigFrame.allReadyIn_want rfl (by kernel_rfl) ?_ AllReadyIn.nil)
                  intro K' hK
                  simp only [List.getElem_toArray, List.getElem_cons_zero, List.getElem_cons_succ]
                  gi_big_op
                  refine hK _ _ ?_
                  clear hK K'
                  refine wpAnyIn_take (i := 2) (v := ?_) rfl rfl (by kernel_rfl) (by kernel_rfl) (by kernel_rfl) (fun _ _ _ h => h) ⟨Or.inl ⟨by kernel_rfl, ?_⟩, fun _ => rfl⟩ ?_
                  rotate_left
                  · intro w; go_simp; try with_reducible rfl
                  simp only [List.getElem_toArray, List.getElem_cons_zero, List.getElem_cons_succ, Act.put, List.setIfInBounds_toArray, List.set_cons_zero, List.set_cons_succ]
                  refine wpAnyIn_ready (rs := [4]) (by kernel_rfl) (by simp) (BigFrame.allReadyIn_want rfl (by kernel_rfl) ?_ AllReadyIn.nil)
                  intro K' hK
                  simp only [List.getElem_toArray, List.getElem_cons_zero, List.getElem_cons_succ]
                  gi_big_op
                  refine hK _ _ ?_
                  clear hK K'
                  refine wpAnyIn_done (by kernel_rfl) ?_ _
                  gi_wp2
                  exact HFIN.out
          case done =>
            rintro E ys W hD hys ⟨hB, h15, h16⟩ hK
            rw [hys] at h16
            rw [hDl] at h16
            have c3 := Boxed.cell (show Boxed W _ 9 _ from heap_below HM.out.asks hB (heap_lt HM.out.asks))
            have b4 : Boxed W (w.heap.size + 1) 4 (.bool false) := heap_below HM.out.ends hB (heap_lt HM.out.ends)
            have c4 := b4.cell
            have f4 := b4.frozen
            have c16 := h16.cell
            have HRW := Lib.hid (HR.out W.drew hB.drew)
            have hml := HM.out.below.size
            have HBB := Lib.hid hB
            have HKK := Lib.hid hK
            have HB4 := Lib.hid b4
            clear hB h15 h16 hK b15 b16 hst b4 hys
            gi_wp2
            have HFIN : Hid (((W.setCell ⟨w.heap.size + 1, 0, none⟩ (.bool true)).drew).heap[E]? = some (.deferred (some [])) ∧ Boxed ((W.setCell ⟨w.heap.size + 1, 0, none⟩ (.bool true)).drew) (w.heap.size + 1) 4 (.bool true) ∧ Below w.heap.size w ((W.setCell ⟨w.heap.size + 1, 0, none⟩ (.bool true)).drew)) := Lib.hid
              ⟨(KeepsOthers.setCell W ⟨w.heap.size + 1, 0, none⟩ (.bool true)).same E _ HKK.out rfl, HB4.out.set _, ((HM.out.below.trans (HBB.out.mono hml)).setCell (p := ⟨w.heap.size + 1, 0, none⟩) (by show w.heap.size ≤ w.heap.size + 1; omega) _).drew⟩
            have hw1 : IntKind.i64.wrap ((n : Int) - (rr : Int)) = ((n - rr : Nat) : Int) := by rw [IntWalk.i64_in _ (by omega)]; omega
            have d16 : W.drew.cell? ⟨wr.heap.size + 1, 0, none⟩ = some (.int .i64 ((n - rr : Nat) : Int)) := c16
            have d3 : W.drew.cell? ⟨w.heap.size, 0, none⟩ = some (.string fr) := c3
            have g4 : W.drew.frozen? ⟨w.heap.size + 1, 0, none⟩ = false := f4
            refine wpIn_calm ?_
            refine wpIn_region_any (by kernel_rfl) ?_
            change wpAnyIn _ _ _ _ _ _ 7 _ _ (World.drew _)
            refine wpAnyIn_take (i := 1) (v := ?_) rfl rfl (by kernel_rfl) (by kernel_rfl) (by kernel_rfl) (fun _ _ _ h => h) ⟨Or.inl ⟨by kernel_rfl, ?_⟩, fun _ => rfl⟩ ?_
            rotate_left
            · intro w; go_simp; try with_reducible rfl
            simp only [List.getElem_toArray, List.getElem_cons_zero, List.getElem_cons_succ, Act.put, List.setIfInBounds_toArray, List.set_cons_zero, List.set_cons_succ]
            refine wpAnyIn_ready (rs := [0, 2]) (by kernel_rfl) (by simp) (AllReadyIn.cons rfl (fun K hK => ?_) (AllReadyIn.cons rfl (fun K hK => ?_) AllReadyIn.nil))
            · go_simp
              refine hK _ _ ?_
              clear hK K
              refine wpAnyIn_ready (rs := [2]) (by kernel_rfl) (by simp) (AllReadyIn.cons rfl (fun K hK => ?_) AllReadyIn.nil)
              go_simp
              refine hK _ _ ?_
              clear hK K
              refine wpAnyIn_ready (rs := [3]) (by kernel_rfl) (by simp) (AllReadyIn.cons rfl (fun K hK => ?_) AllReadyIn.nil)
              go_simp
              refine ⟨trivial, (callsIn_wide.2 HRW.out).mono ?_⟩
              rintro e _ ⟨rfl, rfl⟩
              dsimp only
              refine hK _ _ ?_
              clear hK K
              refine wpAnyIn_take (i := 4) (v := ?_) rfl rfl (by kernel_rfl) (by kernel_rfl) (by kernel_rfl) (fun _ _ _ h => h) ⟨Or.inl ⟨by kernel_rfl, ?_⟩, fun _ => rfl⟩ ?_
              rotate_left
              · intro w; go_simp; try with_reducible rfl
              simp only [List.getElem_toArray, List.getElem_cons_zero, List.getElem_cons_succ, Act.put, List.setIfInBounds_toArray, List.set_cons_zero, List.set_cons_succ]
              refine wpAnyIn_take (i := 5) (v := ?_) rfl rfl (by kernel_rfl) (by kernel_rfl) (by kernel_rfl) (fun _ _ _ h => h) ⟨Or.inl ⟨by kernel_rfl, ?_⟩, fun _ => rfl⟩ ?_
              rotate_left
              · intro w; go_simp; try with_reducible rfl
              simp only [List.getElem_toArray, List.getElem_cons_zero, List.getElem_cons_succ, Act.put, List.setIfInBounds_toArray, List.set_cons_zero, List.set_cons_succ]
              refine wpAnyIn_ready (rs := [6]) (by kernel_rfl) (by simp) (AllReadyIn.cons rfl (fun K hK => ?_) AllReadyIn.nil)
              go_simp
              refine hK _ _ ?_
              clear hK K
              refine wpAnyIn_done (by kernel_rfl) ?_ _
              gi_wp2
              obtain ⟨k1, k2, k3⟩ := HFIN.out
              refine ⟨by simp, .inl ⟨_, _, rfl, run_takeDeferred k1, ?_⟩⟩
              have hc5 := cell_kept k2.cell (grownBy_putObj' _ E (.deferred none)) (fun r e => by cases e; exact ⟨_, k1, rfl⟩)
              exact ⟨.bool true, by simp [results, Try.f3, go_sem, hc5], rfl, k3.trans (belowK_b (w := w) (Nat.le_refl _) _ E _ _ (by omega) k1 rfl rfl)⟩
            · go_simp
              refine hK _ _ ?_
              clear hK K
              refine wpAnyIn_ready (rs := [0, 3]) (by kernel_rfl) (by simp) (AllReadyIn.cons rfl (fun K hK => ?_) (AllReadyIn.cons rfl (fun K hK => ?_) AllReadyIn.nil))
              · go_simp
                refine hK _ _ ?_
                clear hK K
                refine wpAnyIn_ready (rs := [3]) (by kernel_rfl) (by simp) (AllReadyIn.cons rfl (fun K hK => ?_) AllReadyIn.nil)
                go_simp
                refine ⟨trivial, (callsIn_wide.2 HRW.out).mono ?_⟩
                rintro e _ ⟨rfl, rfl⟩
                dsimp only
                refine hK _ _ ?_
                clear hK K
                refine wpAnyIn_take (i := 4) (v := ?_) rfl rfl (by kernel_rfl) (by kernel_rfl) (by kernel_rfl) (fun _ _ _ h => h) ⟨Or.inl ⟨by kernel_rfl, ?_⟩, fun _ => rfl⟩ ?_
                rotate_left
                · intro w; go_simp; try with_reducible rfl
                simp only [List.getElem_toArray, List.getElem_cons_zero, List.getElem_cons_succ, Act.put, List.setIfInBounds_toArray, List.set_cons_zero, List.set_cons_succ]
                refine wpAnyIn_take (i := 5) (v := ?_) rfl rfl (by kernel_rfl) (by kernel_rfl) (by kernel_rfl) (fun _ _ _ h => h) ⟨Or.inl ⟨by kernel_rfl, ?_⟩, fun _ => rfl⟩ ?_
                rotate_left
                · intro w; go_simp; try with_reducible rfl
                simp only [List.getElem_toArray, List.getElem_cons_zero, List.getElem_cons_succ, Act.put, List.setIfInBounds_toArray, List.set_cons_zero, List.set_cons_succ]
                refine wpAnyIn_ready (rs := [6]) (by kernel_rfl) (by simp) (AllReadyIn.cons rfl (fun K hK => ?_) AllReadyIn.nil)
                go_simp
                refine hK _ _ ?_
                clear hK K
                refine wpAnyIn_done (by kernel_rfl) ?_ _
                gi_wp2
                obtain ⟨k1, k2, k3⟩ := HFIN.out
                refine ⟨by simp, .inl ⟨_, _, rfl, run_takeDeferred k1, ?_⟩⟩
                have hc5 := cell_kept k2.cell (grownBy_putObj' _ E (.deferred none)) (fun r e => by cases e; exact ⟨_, k1, rfl⟩)
                exact ⟨.bool true, by simp [results, Try.f3, go_sem, hc5], rfl, k3.trans (belowK_b (w := w) (Nat.le_refl _) _ E _ _ (by omega) k1 rfl rfl)⟩
              · go_simp
                refine ⟨trivial, (callsIn_wide.2 HRW.out).mono ?_⟩
                rintro e _ ⟨rfl, rfl⟩
                dsimp only
                refine hK _ _ ?_
                clear hK K
                refine wpAnyIn_take (i := 4) (v := ?_) rfl rfl (by kernel_rfl) (by kernel_rfl) (by kernel_rfl) (fun _ _ _ h => h) ⟨Or.inl ⟨by kernel_rfl, ?_⟩, fun _ => rfl⟩ ?_
                rotate_left
                · intro w; go_simp; try with_reducible rfl
                simp only [List.getElem_toArray, List.getElem_cons_zero, List.getElem_cons_succ, Act.put, List.setIfInBounds_toArray, List.set_cons_zero, List.set_cons_succ]
                refine wpAnyIn_ready (rs := [0]) (by kernel_rfl) (by simp) (AllReadyIn.cons rfl (fun K hK => ?_) AllReadyIn.nil)
                go_simp
                refine hK _ _ ?_
                clear hK K
                refine wpAnyIn_take (i := 5) (v := ?_) rfl rfl (by kernel_rfl) (by kernel_rfl) (by kernel_rfl) (fun _ _ _ h => h) ⟨Or.inl ⟨by kernel_rfl, ?_⟩, fun _ => rfl⟩ ?_
                rotate_left
                · intro w; go_simp; try with_reducible rfl
                simp only [List.getElem_toArray, List.getElem_cons_zero, List.getElem_cons_succ, Act.put, List.setIfInBounds_toArray, List.set_cons_zero, List.set_cons_succ]
                refine wpAnyIn_ready (rs := [6]) (by kernel_rfl) (by simp) (AllReadyIn.cons rfl (fun K hK => ?_) AllReadyIn.nil)
                go_simp
                refine hK _ _ ?_
                clear hK K
                refine wpAnyIn_done (by kernel_rfl) ?_ _
                gi_wp2
                obtain ⟨k1, k2, k3⟩ := HFIN.out
                refine ⟨by simp, .inl ⟨_, _, rfl, run_takeDeferred k1, ?_⟩⟩
                have hc5 := cell_kept k2.cell (grownBy_putObj' _ E (.deferred none)) (fun r e => by cases e; exact ⟨_, k1, rfl⟩)
                exact ⟨.bool true, by simp [results, Try.f3, go_sem, hc5], rfl, k3.trans (belowK_b (w := w) (Nat.le_refl _) _ E _ _ (by omega) k1 rfl rfl)⟩
          case stop =>
            rintro E c pre W _ hp h _
            exact absurd h.2 (HNB.out _ hp)
theorem walk_RankedTexts (a0 : Option Addr) (len0 cap0 : Nat) (ss0 : List ByteArray) (fr : ByteArray) (w : World) (w0 : IsStrs w a0 len0 cap0 ss0) (w1 : fr.size ≤ maxLen) :
    Calls Try.prog 3 #[.slice a0 len0 cap0, .string fr] w fun e w' => e = .returned (.bool true) ∧ Below w.heap.size w w' := by
  by_cases h60 : 60 < len0
  · exact walk_long a0 len0 cap0 ss0 fr w w0 w1 h60
  by_cases h40 : 40 < fr.size
  · exact walk_wide a0 len0 cap0 ss0 fr w w0 w1 h60 h40
  · exact walk_main a0 len0 cap0 ss0 fr w w0 w1 h60 h40
end Go.Proofs.Ytpoillgnkmpknaa.Ss
