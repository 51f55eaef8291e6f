/- Contract: the document's example. -/
import Derived.Test.YtpoillgnkmpknaaTo
set_option linter.unusedVariables false
set_option linter.unusedSectionVars false
namespace Go.Proofs.Ytpoillgnkmpknaa
open Go.RowKit Rk

theorem mput_lit {w : World} {m o : Nat} {L L' : List (Int × Int)} {bv : Bool} (k v : Int) (h : IsM w m o L) (hs : L.length ≤ 500000) (e1 : (get ltI k L).isNone = bv) (e2 : ins ltI k v L = L') : Calls Try.prog 10 #[.pointer (some ⟨m, o, none⟩), .int .i64 k, .int .i64 v] w (PutPost m o bv L' w) := by
  subst e1 e2; exact mput_any k v h hs
theorem mdrop_lit {w : World} {m o : Nat} {L L' : List (Int × Int)} {bv : Bool} (k : Int) (h : IsM w m o L) (hs : L.length ≤ 500000) (e1 : (get ltI k L).isSome = bv) (e2 : del ltI k L = L') : Calls Try.prog 16 #[.pointer (some ⟨m, o, none⟩), .int .i64 k] w (PutPost m o bv L' w) := by
  subst e1 e2; exact mdrop_any k h hs
theorem mget_lit {w : World} {m o : Nat} {L : List (Int × Int)} {bv : Bool} {v : Int} (k : Int) (h : IsM w m o L) (e1 : getV k L = v) (e2 : (get ltI k L).isSome = bv) : Calls Try.prog 11 #[.pointer (some ⟨m, o, none⟩), .int .i64 k] w fun e w' => e = .returned (.tuple #[.int .i64 v, .bool bv]) ∧ Turned (fun _ => False) w w' := by
  subst e1 e2; exact mget_any k h
theorem mat_lit {w : World} {m o : Nat} {L : List (Int × Int)} {bv : Bool} {k v : Int} (i : Int) (h : IsM w m o L) (hi : i ≤ 9223372036854775807) (hs : L.length ≤ 900000) (e1 : atK i L = k) (e2 : atV i L = v) (e3 : (nthI L i).isSome = bv) : Calls Try.prog 12 #[.pointer (some ⟨m, o, none⟩), .int .i64 i] w fun e w' => e = .returned (.tuple #[.int .i64 k, .int .i64 v, .bool bv]) ∧ Turned (fun _ => False) w w' := by
  subst e1 e2 e3; exact mat_any i h hi hs
theorem mrank_lit {w : World} {m o : Nat} {L : List (Int × Int)} {r : Int} (k : Int) (h : IsM w m o L) (hs : L.length ≤ 900000) (e1 : (rk ltI k L : Int) = r) : Calls Try.prog 17 #[.pointer (some ⟨m, o, none⟩), .int .i64 k] w fun e w' => e = .returned (.int .i64 r) ∧ w = w' := by
  subst e1; exact mrank_any k h hs
theorem from_lit {w : World} {m o : Nat} {L D : List (Int × Int)} {nI : Int} (k : Int) (n : Nat) (h : IsM w m o L) (hs : L.length ≤ 100000) (hn1 : 1 ≤ n) (hn2 : n ≤ 100000) (e0 : (n : Int) = nI) (e1 : (L.drop (rk ltI k L)).take n = D) : Calls Try.prog 14 #[.pointer (some ⟨m, o, none⟩), .int .i64 k, .int .i64 nI] w (PairsPost D w) := by
  subst e0 e1; exact from_any k n h hs hn1 hn2
theorem below_turned {R : Nat → Prop} {B : Nat} {a b c : World} (h : Below B a b) (t : Turned R b c) (hR : ∀ i, i < b.heap.size → R i → B ≤ i) (hB : B ≤ b.heap.size) : Below B a c :=
  h.trans ⟨t.os, t.tape, t.output, t.size, fun i hi => t.block i (by omega) (fun e => by have := hR i (by omega) e; omega)⟩
theorem below_calm {B : Nat} {a b c : World} (h : Below B a b) (t : Turned (fun _ => False) b c) (hB : B ≤ b.heap.size) : Below B a c := below_turned h t (fun _ _ e => e.elim) hB
theorem IsM.new (w : World) : IsM (w.alloc (.cells #[.pointer none] 38)) w.heap.size 0 [] := ⟨none, .nil, _, heap_new _ rfl, rfl, rfl, rfl, List.Pairwise.nil⟩
theorem IsM.apart {w w' : World} {m o m' o' : Nat} {L L' : List (Int × Int)} (h : IsM w m o L) (hp : PutW m' o' L' w w') (hne : m ≠ m') (h' : ∃ cs, w.heap[m']? = some (.cells cs 38 (0, 0))) : IsM w' m o L := by
  obtain ⟨cs, hcs⟩ := h'
  exact h.turned hp.turned hne (fun c e o ho => by subst e; rw [hcs] at ho; cases ho; exact notNode_map _ _)
theorem IsM.box {w : World} {m o : Nat} {L : List (Int × Int)} (h : IsM w m o L) : ∃ cs, w.heap[m]? = some (.cells cs 38 (0, 0)) := by obtain ⟨p, t, cs, h1, _⟩ := h; exact ⟨cs, h1⟩

set_option maxRecDepth 100000 in
set_option maxHeartbeats 4000000 in
theorem alive_any (w : World) : Calls Try.prog 4 #[] w fun e w' => e = .returned (.bool true) ∧ Below w.heap.size w w' := by
  have h0 := IsM.new w
  have b0 : Below w.heap.size w (w.alloc (.cells #[.pointer none] 38)) := (Below.refl _ _).alloc (Nat.le_refl _) _
  have z0 : w.heap.size < (w.alloc (.cells #[.pointer none] 38)).heap.size := by simp
  go_enter Try.func4, Try.ntmps4
  go_wp2_with fail
  revert h0 b0 z0
  generalize w.alloc (.cells #[.pointer none] 38) = w0
  intro h0 b0 z0
  have HB0 := Lib.hid b0
  have HC := Lib.hid (mput_lit (bv := true) (L' := [(5, 50)]) 5 50 h0 (by decide) rfl rfl)
  clear b0 h0
  refine HC.out.mono ?_
  rintro e w1 ⟨rfl, hP⟩
  have HP1 := Lib.hid hP
  have HB1 := Lib.hid (below_turned HB0.out hP.turned (fun i _ e => by omega) (by omega))
  have z1 := Nat.lt_of_lt_of_le z0 hP.turned.size
  clear hP HC
  go_wp2_with fail
  have HC := Lib.hid (mput_lit (bv := true) (L' := [(2, 20), (5, 50)]) 2 20 HP1.out.map (by decide) rfl rfl)
  refine HC.out.mono ?_
  rintro e w2 ⟨rfl, hP⟩
  have HP2 := Lib.hid hP
  have HB2 := Lib.hid (below_turned HB1.out hP.turned (fun i _ e => by omega) (by omega))
  have z2 := Nat.lt_of_lt_of_le z1 hP.turned.size
  clear hP HC
  go_wp2_with fail
  have HC := Lib.hid (mput_lit (bv := false) (L' := [(2, 20), (5, 51)]) 5 51 HP2.out.map (by decide) rfl rfl)
  refine HC.out.mono ?_
  rintro e w3 ⟨rfl, hP⟩
  have HP3 := Lib.hid hP
  have HB3 := Lib.hid (below_turned HB2.out hP.turned (fun i _ e => by omega) (by omega))
  have z3 := Nat.lt_of_lt_of_le z2 hP.turned.size
  clear hP HC
  go_wp2_with fail
  have HC := Lib.hid (mget_lit (bv := true) (v := 51) 5 HP3.out.map rfl rfl)
  refine HC.out.mono ?_
  rintro e w4 ⟨rfl, ht⟩
  have HM4 := Lib.hid (HP3.out.map.calm ht)
  have HB4 := Lib.hid (below_calm HB3.out ht (by omega))
  have z4 := Nat.lt_of_lt_of_le z3 ht.size
  clear ht HC
  go_wp2_with fail
  have HC := Lib.hid (mat_lit (bv := true) (k := 2) (v := 20) 0 HM4.out (by decide) (by decide) rfl rfl rfl)
  refine HC.out.mono ?_
  rintro e w5 ⟨rfl, ht⟩
  have HM5 := Lib.hid (HM4.out.calm ht)
  have HB5 := Lib.hid (below_calm HB4.out ht (by omega))
  have z5 := Nat.lt_of_lt_of_le z4 ht.size
  clear ht HC
  go_wp2_with fail
  have HC := Lib.hid (all_any HM5.out (by decide))
  refine HC.out.mono ?_
  rintro e w6 ⟨v6, rfl, hg6, hb6⟩
  obtain ⟨a6, cp6, rfl⟩ := hg6.slice
  have HM6 := Lib.hid (HM5.out.below hb6)
  have HB6 := Lib.hid (HB5.out.trans (hb6.mono (by omega)))
  have z6 := Nat.lt_of_lt_of_le z5 hb6.size
  simp only [List.length_cons, List.length_nil, Nat.zero_add, Nat.reduceAdd] at hg6
  clear hg6 hb6 HC
  go_wp2_with fail
  have HC := Lib.hid (from_lit (nI := 9) (D := [(5, 51)]) 3 9 HM6.out (by decide) (by decide) (by decide) rfl rfl)
  refine HC.out.mono ?_
  rintro e w7 ⟨v7, rfl, hg7, hb7⟩
  obtain ⟨a7, cp7, rfl⟩ := hg7.slice
  have HM7 := Lib.hid (HM6.out.below hb7)
  have HB7 := Lib.hid (HB6.out.trans (hb7.mono (by omega)))
  have z7 := Nat.lt_of_lt_of_le z6 hb7.size
  clear hg7 hb7 HC
  go_wp2_with fail
  refine (mclone_any HM7.out).mono ?_
  rintro e w8 ⟨mc, rfl, hmc, hM8, ht⟩
  have HM8 := Lib.hid (HM7.out.calm ht)
  have HN8 := Lib.hid hM8
  have HB8 := Lib.hid (below_calm HB7.out ht (by omega))
  have z8 := Nat.lt_of_lt_of_le z7 ht.size
  have hne : mc ≠ w.heap.size := by omega
  have HNE := Lib.hid hne
  clear ht hM8 hne hmc
  go_wp2_with fail
  have HC := Lib.hid (mdrop_lit (bv := true) (L' := [(5, 51)]) 2 HM8.out (by decide) rfl rfl)
  refine HC.out.mono ?_
  rintro e w9 ⟨rfl, hP⟩
  have HP9 := Lib.hid hP
  have HN9 := Lib.hid (HN8.out.apart hP HNE.out HM8.out.box)
  have HB9 := Lib.hid (below_turned HB8.out hP.turned (fun i _ e => by omega) (by omega))
  have z9 := Nat.lt_of_lt_of_le z8 hP.turned.size
  clear hP HC
  go_wp2_with fail
  have HC := Lib.hid (mdrop_lit (bv := false) (L' := [(5, 51)]) 9 HP9.out.map (by decide) rfl rfl)
  refine HC.out.mono ?_
  rintro e w10 ⟨rfl, hP⟩
  have HP10 := Lib.hid hP
  have HN10 := Lib.hid (HN9.out.apart hP HNE.out HP9.out.map.box)
  have HB10 := Lib.hid (below_turned HB9.out hP.turned (fun i _ e => by omega) (by omega))
  clear hP HC
  go_wp2_with fail
  refine (mrank_lit (r := 0) 5 HP10.out.map (by decide) rfl).mono ?_
  rintro e w' ⟨rfl, rfl⟩
  go_wp2_with fail
  refine (mrank_lit (r := 1) 5 HN10.out (by decide) rfl).mono ?_
  rintro e w' ⟨rfl, rfl⟩
  go_wp2_with fail
  refine (mlen_any HP10.out.map).mono ?_
  rintro e w' ⟨rfl, rfl⟩
  go_wp2_with fail
  refine (mlen_any HN10.out).mono ?_
  rintro e w' ⟨rfl, rfl⟩
  go_wp2
  go_ret
  exact ⟨rfl, HB10.out⟩
end Go.Proofs.Ytpoillgnkmpknaa
