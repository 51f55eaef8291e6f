/- Contracts: those that something is between one and; all weights together. -/
import Derived.Test.YtjcmeacgfflfmaaGreatGo
set_option linter.unusedVariables false
set_option linter.unusedSectionVars false
namespace Go.Proofs.YtjcmeacgfflfmaaGreat
open Go.RowKit Go.Shelf Rk

attribute [local go_sem] Oper.semAt_some

/-- An iterator over pairs, whichever function. -/
def IsSeq2 (W : World) (v : Value) (n₀ : Nat) (D : List (Int × Int)) : Prop :=
  ∃ gf lb, v = .func (.func gf) #[] lb ∧ (∀ args w, (callFunc gf args).run Tryz.prog w = .ok (.enter gf args) w) ∧ ∀ n, SeqStopsK Fence.wide n Tryz.prog gf lb encP (Below n₀) (fun ys => ys = D) (fun pre => pre <+: D) D.length W
theorem IsSeq2.below {W W' : World} {v : Value} {n₀ : Nat} {D : List (Int × Int)} (h : IsSeq2 W v n₀ D) (hb : Below W.heap.size W W') : IsSeq2 W' v n₀ D := by
  obtain ⟨gf, lb, h1, h2, h3⟩ := h
  exact ⟨gf, lb, h1, h2, fun n l J Jx W1 hW => h3 n l J Jx W1 (hb.trans (hW.mono hb.size))⟩
theorem IsSeq.two {W : World} {v : Value} {n₀ : Nat} {D : List (Int × Int)} (h : IsSeq W v n₀ D) : IsSeq2 W v n₀ D := by
  obtain ⟨lb, h1, h2⟩ := h.stops 0
  refine ⟨_, lb, h1, enters_of Tryz.func154 (by kernel_rfl) rfl, fun n => ?_⟩
  obtain ⟨lb', h3, h4⟩ := h.stops n
  rw [h1] at h3
  cases h3
  exact h4
theorem near1_stops (n n₀ : Nat) (W : World) : SeqStopsK Fence.wide n Tryz.prog 109 #[] encP (Below n₀) (fun ys => ys = []) (fun pre => pre <+: []) 0 W := fun l J Jx W1 hW hJ hJx hY h0 => by
  refine callsIn_of_wp Tryz.func109 rfl trivial ?_ rfl
  simp only [Tryz.ntmps109, List.size_toArray, List.length_cons, List.length_nil, Nat.reduceAdd, Nat.reduceSub, Array.replicate_succ, Array.replicate_zero, List.push_toArray, List.append_toArray, List.nil_append, List.cons_append]
  gi_wp2
  go_end0
  exact ⟨⟨_, rfl⟩, .inl ⟨[], rfl, h0⟩⟩
/-- The row of a thing, whichever number. -/
def nearD (n : Nat) (F : Nat → Nat → Int) (i : Int) : List (Int × Int) := if hasN n i = true then rowOf n (F i.toNat) else []
theorem nearD_nat {n : Nat} (F : Nat → Nat → Int) {i : Nat} (h : i < n) : nearD n F i = rowOf n (F i) := by
  unfold nearD
  rw [if_pos (hasN_nat h)]; simp
theorem nearD_length (n : Nat) (F : Nat → Nat → Int) (i : Int) : (nearD n F i).length ≤ n := by
  unfold nearD
  split
  · exact rowOf_length _ _
  · exact Nat.zero_le _
def Seq2Post (n₀ : Nat) (D : List (Int × Int)) (w : World) (e : Ending) (w' : World) : Prop := ∃ v, e = .returned v ∧ IsSeq2 w' v n₀ D ∧ Below w.heap.size w w'
theorem near_any {w0 w : World} {g nb : Nat} {ws : List Int} {F : Nat → Nat → Int} (i : Int) (h0 : IsG w0 g nb ws F) (hb : Below w0.heap.size w0 w) :
    Calls Tryz.prog 69 #[.pointer (some ⟨g, 0, none⟩), .int .i64 i] w (Seq2Post w0.heap.size (nearD ws.length F i) w) := by
  have h := h0.below hb
  have HH := Lib.hid (has_any h i)
  cases hi : hasN ws.length i with
  | false =>
    rw [hi] at HH
    have H : Hid (nearD ws.length F i = []) := Lib.hid (by unfold nearD; rw [if_neg (by rw [hi]; simp)])
    clear h hi h0 hb
    go_enter Tryz.func69, Tryz.ntmps69
    go_wp2_with (go_at_call 54; refine HH.out.mono ?_; rintro e w' ⟨rfl, rfl⟩)
    go_ret
    rw [H.out]
    exact ⟨_, rfl, ⟨_, _, rfl, enters_of Tryz.func109 (by kernel_rfl) rfl, fun n => near1_stops n _ _⟩, Below.refl _ _⟩
  | true =>
    rw [hi] at HH
    obtain ⟨k, rfl, hk⟩ := hasN_t hi
    have H : Hid (nearD ws.length F (k : Int) = rowOf ws.length (F k)) := Lib.hid (nearD_nat F hk)
    have HAll := Lib.hid (mall_any (h0.map k hk) hb (Nat.le_trans (rowOf_length _ _) (by have := h0.small; omega)))
    obtain ⟨wa, wc, wb, h1, h2⟩ := h.box
    have c0 : w.cell? ⟨g, 1, none⟩ = some (.slice (some ⟨nb, 0, none⟩) ws.length ws.length) := heap_cell h1 rfl
    have hsm := h.small
    clear h hi h1 h2 h0 hb
    generalize nearD ws.length F (k : Int) = D at *
    rw [← H.out] at HAll
    clear H
    generalize ws.length = n at *
    go_enter Tryz.func69, Tryz.ntmps69
    go_wp2_with (go_at_call 54; refine HH.out.mono ?_; rintro e w' ⟨rfl, rfl⟩)
    refine HAll.out.mono ?_
    rintro e w1 ⟨v, rfl, hsq, hB, -⟩
    have HE := Lib.hid (show Seq2Post w0.heap.size D w (.returned v) w1 from ⟨v, rfl, hsq.two, hB⟩)
    clear hsq hB
    go_wp2
    go_ret
    exact HE.out

theorem ret2 {k : IntKind} {a b : Int} {c d : Bool} (h : a = b) (g : c = d) : Ending.returned (.tuple #[.int k a, .bool c]) = .returned (.tuple #[.int k b, .bool d]) := by rw [h, g]
/-- All weights together. -/
theorem addW_any (a b : Int) (w : World) (h0 : 0 ≤ a) (h1 : 1 ≤ b) (h2 : a + b ≤ 9223372036854775807) :
    Calls Tryz.prog 111 #[.int .i64 a, .int .i64 b] w fun e w' => e = .returned (.tuple #[.int .i64 (a + b), .bool true]) ∧ w = w' := by
  have H := Lib.hid (IntWalk.wrap64_in (a + b) ⟨by omega, by omega⟩)
  have hw : IntKind.i64.wrap (a + b) = a + b := IntWalk.i64_in _ ⟨by omega, by omega⟩
  have hd : decide (a < a + b) = true := by simp; omega
  have hd2 : decide (0 < b) = true := by simp; omega
  go_enter Tryz.func111, Tryz.ntmps111
  go_wp2
  go_ret2
  exact ⟨rfl, rfl⟩
theorem getD_wts {ws : List Int} (h : ∀ x ∈ ws, 1 ≤ x ∧ x ≤ 1099511627776) {k : Nat} (hk : k < ws.length) : 1 ≤ ws.getD k 0 ∧ ws.getD k 0 ≤ 1099511627776 := by
  rw [List.getD_eq_getElem?_getD, List.getElem?_eq_getElem hk]
  exact h _ (List.getElem_mem hk)
theorem sum_take_succ {ws : List Int} {k : Nat} (hk : k < ws.length) : (ws.take (k + 1)).sum = (ws.take k).sum + ws.getD k 0 := by
  rw [List.take_succ_eq_append_getElem hk, List.sum_append, List.getD_eq_getElem?_getD, List.getElem?_eq_getElem hk]
  simp
theorem sumW_any {B : Nat} {w : World} {a : Option Addr} {b cap : Nat} {ws : List Int} (h : IntsAt .i64 B w a b 0 ws.length ws) (hs : ws.length ≤ 4096) (hw : ∀ x ∈ ws, 1 ≤ x ∧ x ≤ 1099511627776) :
    Calls Tryz.prog 70 #[.slice a ws.length cap] w fun e w' => e = .returned (.tuple #[.int .i64 ws.sum, .bool true]) ∧ w = w' := by
  have HC := Lib.hid h
  have HW := Lib.hid hw
  clear h hw
  obtain ⟨n, hn⟩ : ∃ n, ws.length = n := ⟨_, rfl⟩
  have HN := Lib.hid hn
  rw [hn] at hs ⊢
  clear hn
  go_enter Tryz.func70, Tryz.ntmps70
  go_wp2
  go_loop [4, 11] (fun tot i => ∃ (k : Nat) (t : Int), k ≤ n ∧ i = .int .i64 k ∧ tot = .int .i64 t ∧ 0 ≤ t ∧ t ≤ 1099511627776 * (k : Int) ∧ Hid ((ws.take k).sum = t)) (fun _ i => n - (intOf i).toNat)
  case atStart => exact ⟨0, 0, Nat.zero_le _, rfl, rfl, by omega, by omega, Lib.hid rfl⟩
  case round =>
    obtain ⟨k, t, hk, rfl, rfl, ht0, ht1, hs'⟩ := hrel
    by_cases hlt : k < n
    · have hkz : k < ws.length := by rw [HN.out]; exact hlt
      have hcell := HC.out.cell k hkz
      rw [Nat.zero_add] at hcell
      have hbd := getD_wts HW.out hkz
      have HS := Lib.hid (sum_take_succ hkz)
      obtain rfl : a = some ⟨b, 0, none⟩ := HC.out.addr.resolve_left (by omega)
      generalize ws.getD k 0 = x at *
      clear hkz
      go_wp2_with (go_at_call 111; refine (addW_any _ _ _ ht0 hbd.1 (by omega)).mono ?_; rintro e w' ⟨rfl, rfl⟩)
      go_round
      case rel => exact ⟨k + 1, t + x, by omega, by go_num, rfl, by omega, by omega, Lib.hid (by rw [HS.out, hs'.out])⟩
      case measure => simp [intOf]; omega
    · have HF : Hid (t = ws.sum) := Lib.hid (by rw [← hs'.out, List.take_of_length_le (by have := HN.out; omega)])
      go_wp2
      go_ret2
      exact ⟨ret2 HF.out rfl, rfl⟩
theorem total_any {w : World} {g nb : Nat} {ws : List Int} {F : Nat → Nat → Int} (h : IsG w g nb ws F) : Calls Tryz.prog 27 #[.pointer (some ⟨g, 0, none⟩)] w fun e w' => e = .returned (.int .i64 ws.sum) ∧ w = w' := by
  obtain ⟨wa, wc, wb, h1, h2⟩ := h.box
  have c0 : w.cell? ⟨g, 0, none⟩ = some (.slice wa ws.length wc) := heap_cell h1 rfl
  have HS := Lib.hid (sumW_any (cap := wc) h2 h.small h.wts)
  clear h h1 h2
  go_enter Tryz.func27, Tryz.ntmps27
  go_wp2_with (go_at_call 70; refine HS.out.mono ?_; rintro e w' ⟨rfl, rfl⟩)
  go_ret
  exact ⟨rfl, rfl⟩
end Go.Proofs.YtjcmeacgfflfmaaGreat
