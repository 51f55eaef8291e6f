/- The function that Drain hands back, over whatever loop body. -/
import Derived.Test.YtfghcjhfbbdanaaIw
import Derived.Test.YtfghcjhfbbdanaaHy
set_option linter.unusedVariables false
namespace Go.Proofs.Ytfghcjhfbbdanaa.Ii
open Go.RowKit Go.Shelf

attribute [local go_sem] Oper.semAt_some

theorem drain_any (hb : Nat) (w : World) :
    Calls Try.prog 24 #[.pointer (some ⟨hb, 0, none⟩)] w fun e w' => e = .returned (.func (.func 28) #[] #[.pointer (some ⟨w.heap.size, 0, none⟩)]) ∧ w.alloc (.cells #[.pointer (some ⟨hb, 0, none⟩)] 54) = w' := by
  go_enter Try.func24, Try.ntmps24
  go_wp2
  go_ret
  exact ⟨rfl, rfl⟩

theorem pop_cons {K : Nat} {kf : Int → Int} (HK : IsOrd K kf) {lo hb lb : Nat} {w : World} {row : List Int} {puts : Int} (h : HIs K kf lo hb lb w row puts) (hs : row.length ≤ 100001) (h0 : row.length ≠ 0) :
    Calls Try.prog 29 #[.pointer (some ⟨hb, 0, none⟩)] w fun e w' => e = .returned (.tuple #[.int .i64 (Hm.top kf row), .bool true]) ∧ HIs K kf lo hb lb w' (Hm.rest kf row) puts ∧ Turned (fun k => k = hb ∨ k = lb) w w' :=
  (pop_any HK h hs).mono fun e w' ⟨he, h1, h2⟩ => ⟨by rw [he, topV_of kf h0, decide_eq_true h0]; rfl, h1, h2⟩
theorem pop_nil {K : Nat} {kf : Int → Int} (HK : IsOrd K kf) {lo hb lb : Nat} {w : World} {row : List Int} {puts : Int} (h : HIs K kf lo hb lb w row puts) (h0 : row.length = 0) :
    Calls Try.prog 29 #[.pointer (some ⟨hb, 0, none⟩)] w fun e w' => e = .returned (.tuple #[.int .i64 0, .bool false]) ∧ HIs K kf lo hb lb w' [] puts ∧ Turned (fun k => k = hb ∨ k = lb) w w' :=
  (pop_any HK h (by omega)).mono fun e w' ⟨he, h1, h2⟩ => ⟨by rw [he, topV_nil kf h0, decide_eq_false (by omega)], by rw [Hm.nil_of h0] at h1; exact h1, h2⟩
theorem HMem.keep {K lo hb lb bx : Nat} {A B : World} {v : Value} {L : List Ent} {puts : Int} (h : HMem K lo hb lb A v L puts) (k : Keep3 hb lb bx A B) : HMem K lo hb lb B v L puts := by
  refine ⟨k.box.trans h.box, ⟨h.own.1, ?_⟩, h.row, h.low, Nat.lt_of_lt_of_le h.lt k.size⟩
  rcases h.shape with ⟨rfl, rfl⟩ | ⟨cap, cur, rfl, h1, h2, h3, h4, h5, h6, _⟩
  · exact .inl ⟨rfl, rfl⟩
  · exact .inr ⟨lb, cap, cur, rfl, h1, k.row.trans h2, h3, h4, h5, h6⟩
theorem HIs.keep {K : Nat} {kf : Int → Int} {lo hb lb bx : Nat} {A B : World} {row : List Int} {puts : Int} (h : HIs K kf lo hb lb A row puts) (k : Keep3 hb lb bx A B) : HIs K kf lo hb lb B row puts := by
  obtain ⟨v, L, hm, hh⟩ := h
  exact ⟨v, L, hm.keep k, hh⟩
theorem HIs.hlen {K : Nat} {kf : Int → Int} {lo hb lb : Nat} {A : World} {row : List Int} {puts : Int} (h : HIs K kf lo hb lb A row puts) : hlen hb A = row.length := by
  obtain ⟨v, L, hm, hh⟩ := h
  unfold Go.Proofs.Ytfghcjhfbbdanaa.hlen
  rw [hm.box]
  rcases hm.shape with ⟨rfl, rfl⟩ | ⟨cap, cur, rfl, _⟩
  · have := hh.length; simpa using this
  · have := hh.length; simpa using this
def eInt (x : Int) : Array Value := #[.int .i64 x]
def DrainS (K : Nat) (kf : Int → Int) (lo hb lb : Nat) (row : List Int) (puts : Int) (xs : List Int) (B : World) : Prop := xs = Hm.srt kf row ∧ HIs K kf lo hb lb B [] puts
def DrainP (K : Nat) (kf : Int → Int) (lo hb lb : Nat) (row : List Int) (puts : Int) (xs : List Int) (B : World) : Prop := ∃ k, xs = Hm.outs kf k row ∧ 0 < k ∧ k ≤ row.length ∧ HIs K kf lo hb lb B (Hm.left kf k row) puts

set_option maxRecDepth 100000 in
set_option maxHeartbeats 2000000 in
theorem drain_turns {K : Nat} {kf : Int → Int} (HK : IsOrd K kf) (n : Nat) (hn : 1 ≤ n) {lo hb lb bx : Nat} {w : World} {row : List Int} {puts : Int} (h : HIs K kf lo hb lb w row puts) (hs : row.length ≤ 100001)
    (hbx : w.heap[bx]? = some (.cells #[.pointer (some ⟨hb, 0, none⟩)] 54 (0, 0))) (h1 : bx ≠ hb) (h2 : bx ≠ lb) :
    SeqTurns Fence.wide n Try.prog 28 #[.pointer (some ⟨bx, 0, none⟩)] eInt (fun k => k = hb ∨ k = lb) (Keep3 hb lb bx) (DrainS K kf lo hb lb row puts) (DrainP K kf lo hb lb row puts) row.length w := by
  intro l J Jx W hW hJT hY h0
  have H0 := Lib.hid (h.below hW)
  have HBX := Lib.hid (heap_below hbx hW (heap_lt hbx))
  have HJT := Lib.hid hJT
  clear h hbx hW hJT
  refine callsIn_of_wp Try.func28 rfl trivial ?_ rfl
  simp only [Try.ntmps28, List.size_toArray, List.length_cons, List.length_nil, Nat.reduceAdd, Nat.reduceSub, Array.replicate_succ, Array.replicate_zero, List.push_toArray, List.append_toArray, List.nil_append, List.cons_append]
  gi_wp2
  gi_loopw [4] (fun s wr => ∃ k : Nat, k ≤ row.length ∧ Hid (J (Hm.outs kf k row) wr) ∧ Hid (HIs K kf lo hb lb wr (Hm.left kf k row) puts) ∧ Hid (wr.heap[bx]? = some (.cells #[.pointer (some ⟨hb, 0, none⟩)] 54 (0, 0))))
    (fun _ wr => hlen hb wr)
  case atStart => exact ⟨0, Nat.zero_le _, Lib.hid h0, H0, HBX⟩
  case round =>
    obtain ⟨k, hk, hJ, hH, hB⟩ := hrel
    have b0 : wr.cell? ⟨bx, 0, none⟩ = some (.pointer (some ⟨hb, 0, none⟩)) := heap_cell hB.out rfl
    have hll := Hm.left_length (kf := kf) k row
    by_cases hkl : k = row.length
    · have HPop := Lib.hid (pop_nil HK hH.out (by omega))
      have HK2 := Lib.hid hkl
      clear hY hkl hll
      gi_wp2_with (refine ⟨trivial, ?_⟩; gi_at_call 29; refine (callsIn_wide.2 HPop.out).mono ?_; rintro e w1 ⟨rfl, hP1, hP2⟩; have HP1 := Lib.hid hP1; have HP2 := Lib.hid hP2; clear hP1 hP2)
      refine ⟨fun _ h => (by cases h), ?_⟩
      gi_wp2
      refine bodyPost_ret (results_none rfl _ _ _) rfl ?_
      refine ⟨⟨_, rfl⟩, .inl ⟨_, ⟨rfl, HP1.out⟩, ?_⟩⟩
      have h5 := HJT.out _ _ _ hJ.out HP2.out
      rw [Hm.outs_all k row (by have := HK2.out; omega)] at h5
      exact h5
    · have HPop := Lib.hid (pop_cons HK hH.out (by omega) (by omega))
      have HK2 := Lib.hid hkl
      have HL := Lib.hid hll
      clear hkl hll
      obtain ⟨x, hx⟩ : ∃ x, Hm.top kf (Hm.left kf k row) = x := ⟨_, rfl⟩
      rw [hx] at HPop
      have HX := Lib.hid hx
      clear hx
      gi_wp2_with (refine ⟨trivial, ?_⟩; gi_at_call 29; refine (callsIn_wide.2 HPop.out).mono ?_; rintro e w1 ⟨rfl, hP1, hP2⟩; refine Hid.out ?_)
      have hJ1 := HJT.out _ _ _ hJ.out hP2
      obtain ⟨fn, tmps, assign, body, hy, hR⟩ := hY _ x _ hJ1 (by rw [Hm.outs_length]; have := HK2.out; omega)
      unfold eInt at hy
      refine Lib.hid ?_
      have HR := Lib.hid hR
      have HP1 := Lib.hid hP1
      have HP2 := Lib.hid hP2
      clear hR hP1 hP2 hJ1
      gi_wp2
      refine HR.out.mono ?_
      rintro e W3 ⟨hk3, (⟨rfl, hJ3⟩ | ⟨rfl, hJ3⟩)⟩
      · have HJ3 := Lib.hid hJ3
        have HK3 := Lib.hid hk3
        clear hJ3 hk3
        gi_wp2
        have hk1 : k < row.length := by have := HK2.out; omega
        have hH5 := HP1.out.keep HK3.out
        rw [← Hm.left_snoc k row hk1] at hH5
        have hB5 := HK3.out.ptr.trans (HP2.out.old hB.out (fun e => e.elim h1 h2))
        have HH5 := Lib.hid hH5
        have HB5 := Lib.hid hB5
        have HJ5 : Hid (J (Hm.outs kf (k + 1) row) W3) := Lib.hid (by rw [Hm.outs_snoc k row hk1, HX.out]; exact HJ3.out)
        clear hH5 hB5
        go_roundw
        case rel => exact ⟨k + 1, by omega, HJ5, HH5, HB5⟩
        case measure =>
          rw [HH5.out.hlen, hH.out.hlen, Hm.left_length, Hm.left_length]
          omega
      · have HJ3 := Lib.hid hJ3
        have HK3 := Lib.hid hk3
        clear hJ3 hk3
        gi_wp2
        refine bodyPost_ret (results_none rfl _ _ _) rfl ?_
        have hk1 : k < row.length := by have := HK2.out; omega
        have hH5 := HP1.out.keep HK3.out
        rw [← Hm.left_snoc k row hk1] at hH5
        refine ⟨⟨_, rfl⟩, .inr ⟨_, ⟨k + 1, rfl, by omega, by omega, hH5⟩, ?_⟩⟩
        rw [Hm.outs_snoc k row hk1, HX.out]
        exact HJ3.out
end Go.Proofs.Ytfghcjhfbbdanaa.Ii
