/- Contracts: a text's tokens as a caller reads them; Line at the example; layer 17's example. -/
import Derived.Test.YtdobpgakmonnbaaDoorToI
import Derived.Test.YtdobpgakmonnbaaDoorIc
import Derived.Test.YtdobpgakmonnbaaDoorSm
set_option linter.unusedVariables false
set_option linter.unusedSectionVars false
set_option linter.unusedSimpArgs false
namespace Go.Proofs.YtdobpgakmonnbaaDoor.Tok
open Go.RowKit Go.Shelf

/-- The tokens L lie in block g. -/
structure TkAt (w : World) (g : Nat) (L : List TokW) : Prop where
  lt : g < w.heap.size
  at_ : ∀ i t, L[i]? = some t → w.cell? ⟨g, i * 4, none⟩ = some (.int .i64 (t.kind : Int)) ∧ w.cell? ⟨g, i * 4 + 1, none⟩ = some (.int .i64 (t.at_ : Int)) ∧ w.cell? ⟨g, i * 4 + 2, none⟩ = some (.string ⟨t.text.toArray⟩) ∧ w.cell? ⟨g, i * 4 + 3, none⟩ = some (.int .i64 t.n)
theorem TkAt.kept {w w' : World} {g : Nat} {L : List TokW} (h : TkAt w g L) (hb : Below w.heap.size w w') : TkAt w' g L :=
  ⟨by have := h.lt; have := hb.size; omega, fun i t ht => by
    obtain ⟨h1, h2, h3, h4⟩ := h.at_ i t ht
    have hl := h.lt
    exact ⟨(hb.cell (p := ⟨g, i * 4, none⟩) hl).trans h1, (hb.cell (p := ⟨g, i * 4 + 1, none⟩) hl).trans h2, (hb.cell (p := ⟨g, i * 4 + 2, none⟩) hl).trans h3, (hb.cell (p := ⟨g, i * 4 + 3, none⟩) hl).trans h4⟩⟩
theorem flatT_at : ∀ (L : List TkE) (i : Nat) (x : TkE), L[i]? = some x → (flatT L)[i * 4]? = some (.int .i64 (x.kind : Int)) ∧ (flatT L)[i * 4 + 1]? = some (.int .i64 (x.at_ : Int)) ∧ (flatT L)[i * 4 + 2]? = some (.string x.text) ∧ (flatT L)[i * 4 + 3]? = some (.int .i64 x.n)
  | [], i, x, h => by simp at h
  | y :: r, 0, x, h => by
    simp at h
    subst h
    exact ⟨rfl, rfl, rfl, rfl⟩
  | y :: r, i + 1, x, h => by
    have ih := flatT_at r i x (by simpa using h)
    have e : ∀ k, (flatT (y :: r))[(i + 1) * 4 + k]? = (flatT r)[i * 4 + k]? := fun k => by
      show (([Value.int .i64 (y.kind : Int), .int .i64 (y.at_ : Int), .string y.text, .int .i64 y.n] : List Value) ++ flatT r)[(i + 1) * 4 + k]? = _
      rw [List.getElem?_append_right (by simp; omega), show (i + 1) * 4 + k - ([Value.int .i64 (y.kind : Int), .int .i64 (y.at_ : Int), .string y.text, .int .i64 y.n] : List Value).length = i * 4 + k by simp; omega]
    exact ⟨(e 0).trans ih.1, (e 1).trans ih.2.1, (e 2).trans ih.2.2.1, (e 3).trans ih.2.2.2⟩
theorem toks_some {f a : Nat} {s : List UInt8} {L : List TokW} (h : toksF (f + 1) a s = .ok L) : 1 ≤ L.length := by
  rw [toksF_succ] at h
  split at h
  · cases h
  · split at h
    · cases h; simp
    · split at h
      · cases h
      · cases h; simp
def LRes (s : ByteArray) (w : World) (e : Ending) (w' : World) : Prop := Hid (Below w.heap.size w w') ∧ match toksF (s.size + 1) 0 s.data.toList with
  | .error (x, p) => e = .returned (.tuple #[.slice none 0 0, .agg #[.int .i64 x, .int .i64 (p : Int)]])
  | .ok L => ∃ g cap, e = .returned (.tuple #[.slice (some ⟨g, 0, none⟩) L.length cap, .agg #[.int .i64 0, .int .i64 0]]) ∧ w.heap.size ≤ g ∧ Hid (TkAt w' g L)
theorem list_res (s : ByteArray) (hs : s.size ≤ 60000) (w : World) (hv : VarR w) : Calls Tryd.prog 6 #[.string s] w (LRes s w) := by
  have hw2 : 2 < w.heap.size := by
    obtain ⟨ev, h, _⟩ := hv
    exact Lib.lt_of_cell h
  refine (list_any s hs w hv hw2).mono ?_
  rintro e w' ⟨hb, hp⟩
  refine ⟨Lib.hid hb, ?_⟩
  cases ht : toksF (s.size + 1) 0 s.data.toList with
  | error y => rw [ht] at hp; exact hp
  | ok L =>
    rw [ht] at hp
    obtain ⟨v, rfl, hg⟩ := hp
    have h1 := toks_some ht
    rcases hg with ⟨h0, _⟩ | ⟨hl, ⟨_, h0⟩ | ⟨g, cap, cur, rfl, hbg, hgw, hnc, _, hcs, htk⟩⟩
    · omega
    · omega
    · refine ⟨g, cap, rfl, hbg, Lib.hid ⟨heap_lt hgw, fun i t hi => ?_⟩⟩
      have hi' : i < L.length := (List.getElem?_eq_some_iff.1 hi).1
      have hm : (L.map TkE.of)[i]? = some (TkE.of t) := by simp [hi]
      obtain ⟨k1, k2, k3, k4⟩ := flatT_at _ i _ hm
      have hc : ∀ k u, k < 4 → (flatT (L.map TkE.of))[i * 4 + k]? = some u → w'.cell? ⟨g, i * 4 + k, none⟩ = some u := fun k u hk hu => by
        refine heap_cell hgw ?_
        rw [← htk, List.getElem?_take] at hu
        rw [if_pos (by omega)] at hu
        rw [← Array.getElem?_toList]
        exact hu
      exact ⟨hc 0 _ (by omega) k1, hc 1 _ (by omega) k2, hc 2 _ (by omega) k3, hc 3 _ (by omega) k4⟩
def lnA : ByteArray := ⟨#[97, 98, 10, 99]⟩
def lnB : ByteArray := ⟨#[97, 98, 10]⟩
theorem clamp3 (w : World) : Calls Tryd.prog 11 #[.int .i64 3, .int .i64 0, .int .i64 4] w fun e w' => e = .returned (.int .i64 3) ∧ w' = w := by
  go_enter Tryd.func11, Tryd.ntmps11
  go_wp2
  go_ret
  exact ⟨rfl, rfl⟩
theorem line_ex (w : World) : Calls Tryd.prog 7 #[.string ⟨#[97, 98, 10, 99]⟩, .int .i64 3] w fun e w' => e = .returned (.tuple #[.int .i64 2, .int .i64 1]) ∧ w' = w := by
  have HC := Lib.hid (clamp3 w)
  have HN : Hid (Calls Tryd.prog 12 #[.string ⟨#[97, 98, 10]⟩, .string ⟨#[10]⟩] w fun e w' => e = .returned (.int .i64 1) ∧ w' = w) := Lib.hid (Tryd.strings_Count_one ⟨#[97, 98, 10]⟩ 10 w)
  have HL : Hid (Calls Tryd.prog 13 #[.string ⟨#[97, 98, 10]⟩, .int .u8 10] w fun e w' => e = .returned (.int .i64 2) ∧ w' = w) := Lib.hid (Tryd.strings_LastIndexByte ⟨#[97, 98, 10]⟩ 10 (by decide) w)
  go_enter Tryd.func7, Tryd.ntmps7
  go_wp2_with (first
    | (go_at_call 11; refine HC.out.mono ?_; clear HC; rintro e w' ⟨rfl, rfl⟩)
    | (go_at_call 12; refine HN.out.mono ?_; clear HN; rintro e w' ⟨rfl, rfl⟩)
    | (go_at_call 13; refine HL.out.mono ?_; clear HL; rintro e w' ⟨rfl, rfl⟩))
  refine bodyPost_ret (results_tmp2 rfl _ _ _) rfl ?_
  exact ⟨rfl, rfl⟩
def exL : List TokW := [⟨1, 0, [118, 97, 114], 0⟩, ⟨1, 4, [120], 0⟩, ⟨3, 6, [61], 0⟩, ⟨2, 8, [45, 51], -3⟩, ⟨3, 10, [59], 0⟩, ⟨0, 11, [], 0⟩]
theorem list_exA (w : World) (hv : VarR w) : Calls Tryd.prog 6 #[.string ⟨#[118, 97, 114, 32, 120, 32, 61, 32, 45, 51, 59]⟩] w fun e w' => ∃ g cap, e = .returned (.tuple #[.slice (some ⟨g, 0, none⟩) 6 cap, .agg #[.int .i64 0, .int .i64 0]]) ∧ Hid (TkAt w' g exL ∧ w.heap.size ≤ g) ∧ Hid (Below w.heap.size w w') := by
  refine (list_res ⟨#[118, 97, 114, 32, 120, 32, 61, 32, 45, 51, 59]⟩ (by decide) w hv).mono ?_
  rintro e w' ⟨hb, hp⟩
  have ht : toksF ((⟨#[118, 97, 114, 32, 120, 32, 61, 32, 45, 51, 59]⟩ : ByteArray).size + 1) 0 (⟨#[118, 97, 114, 32, 120, 32, 61, 32, 45, 51, 59]⟩ : ByteArray).data.toList = .ok exL := exA_toks
  rw [ht] at hp
  obtain ⟨g, cap, h1, h2, h3⟩ := hp
  exact ⟨g, cap, h1, Lib.hid ⟨h3.out, h2⟩, hb⟩
theorem list_exB (w : World) (hv : VarR w) : Calls Tryd.prog 6 #[.string ⟨#[97, 32, 45]⟩] w fun e w' => e = .returned (.tuple #[.slice none 0 0, .agg #[.int .i64 21, .int .i64 2]]) ∧ Hid (Below w.heap.size w w') := by
  refine (list_res ⟨#[97, 32, 45]⟩ (by decide) w hv).mono ?_
  rintro e w' ⟨hb, hp⟩
  have ht : toksF ((⟨#[97, 32, 45]⟩ : ByteArray).size + 1) 0 (⟨#[97, 32, 45]⟩ : ByteArray).data.toList = .error (21, 2) := exB_toks
  rw [ht] at hp
  exact ⟨hp, hb⟩
theorem VarR.below {w w' : World} (h : VarR w) (hb : Below w.heap.size w w') : VarR w' := h.on (by obtain ⟨ev, h, _⟩ := h; exact Lib.lt_of_cell h) hb
set_option maxRecDepth 100000 in
set_option maxHeartbeats 4000000 in
theorem alive_any (w : World) (hv : VarR w) : Calls Tryd.prog 4 #[] w fun e w' => e = .returned (.bool true) ∧ Below w.heap.size w w' := by
  have HV := Lib.hid hv
  have H1 := Lib.hid (list_exA w hv)
  clear hv
  go_enter Tryd.func4, Tryd.ntmps4
  go_wp2_with fail
  refine H1.out.mono ?_
  rintro e w1 ⟨g, cap, rfl, HT, HB⟩
  have HB2 : Hid (Below w.heap.size w (w1.alloc (.cells #[.int .i64 0, .int .i64 0] 28))) := Lib.hid (HB.out.alloc HB.out.size _)
  have HF2 : Hid ((w1.alloc (.cells #[.int .i64 0, .int .i64 0] 28)).heap[w1.heap.size]? = some (.cells #[.int .i64 0, .int .i64 0] 28 (0, 0))) := Lib.hid (heap_new _ rfl)
  have HT2 : Hid (TkAt (w1.alloc (.cells #[.int .i64 0, .int .i64 0] 28)) g exL) := Lib.hid (HT.out.1.kept ((Below.refl _ w1).alloc (Nat.le_refl _) _))
  have H2 := Lib.hid (list_exB (w1.alloc (.cells #[.int .i64 0, .int .i64 0] 28)) (HV.out.below HB2.out))
  have hz1 : Hid (w1.heap.size < (w1.alloc (.cells #[.int .i64 0, .int .i64 0] 28)).heap.size) := Lib.hid (by simp)
  clear H1 HB HT
  go_wp2_with fail
  refine H2.out.mono ?_
  rintro e w3 ⟨rfl, HB3⟩
  have HB4 : Hid (Below w.heap.size w (w3.alloc (.cells #[.int .i64 21, .int .i64 2] 28))) := Lib.hid ((HB2.out.trans (HB3.out.mono HB2.out.size)).alloc (HB2.out.trans (HB3.out.mono HB2.out.size)).size _)
  have hb4 : Below (w1.alloc (.cells #[.int .i64 0, .int .i64 0] 28)).heap.size (w1.alloc (.cells #[.int .i64 0, .int .i64 0] 28)) (w3.alloc (.cells #[.int .i64 21, .int .i64 2] 28)) := HB3.out.alloc HB3.out.size _
  have hF := heap_below HF2.out hb4 hz1.out
  have HT4 := Lib.hid (HT2.out.kept hb4)
  have x0 := heap_cell hF (i := 0) rfl
  have x1 := heap_cell hF (i := 1) rfl
  have hF4 := heap_new (w := w3) (.cells #[.int .i64 21, .int .i64 2] 28) rfl
  have y0 := heap_cell hF4 (i := 0) rfl
  have y1 := heap_cell hF4 (i := 1) rfl
  simp only [List.getElem_toArray, List.getElem_cons_zero, List.getElem_cons_succ] at x0 x1 y0 y1
  have k0 : (w3.alloc (.cells #[.int .i64 21, .int .i64 2] 28)).cell? ⟨g, 0, none⟩ = some (.int .i64 1) := (HT4.out.at_ 0 _ rfl).1
  have k3 : (w3.alloc (.cells #[.int .i64 21, .int .i64 2] 28)).cell? ⟨g, 12, none⟩ = some (.int .i64 2) := (HT4.out.at_ 3 _ rfl).1
  have k3n : (w3.alloc (.cells #[.int .i64 21, .int .i64 2] 28)).cell? ⟨g, 15, none⟩ = some (.int .i64 (-3)) := (HT4.out.at_ 3 _ rfl).2.2.2
  have k4 : (w3.alloc (.cells #[.int .i64 21, .int .i64 2] 28)).cell? ⟨g, 16, none⟩ = some (.int .i64 3) := (HT4.out.at_ 4 _ rfl).1
  have k50 : (w3.alloc (.cells #[.int .i64 21, .int .i64 2] 28)).cell? ⟨g, 20, none⟩ = some (.int .i64 0) := (HT4.out.at_ 5 _ rfl).1
  have k51 : (w3.alloc (.cells #[.int .i64 21, .int .i64 2] 28)).cell? ⟨g, 21, none⟩ = some (.int .i64 11) := (HT4.out.at_ 5 _ rfl).2.1
  have k52 : (w3.alloc (.cells #[.int .i64 21, .int .i64 2] 28)).cell? ⟨g, 22, none⟩ = some (.string ⟨#[]⟩) := (HT4.out.at_ 5 _ rfl).2.2.1
  have k53 : (w3.alloc (.cells #[.int .i64 21, .int .i64 2] 28)).cell? ⟨g, 23, none⟩ = some (.int .i64 0) := (HT4.out.at_ 5 _ rfl).2.2.2
  have HLn := Lib.hid (line_ex (w3.alloc (.cells #[.int .i64 21, .int .i64 2] 28)))
  clear H2 HB2 HF2 HT2 hz1 HB3 hb4 hF hF4 HT4
  have HK := Lib.hid (And.intro k0 (And.intro k3 (And.intro k3n (And.intro k4 (And.intro k50 (And.intro k51 (And.intro k52 (And.intro k53 (And.intro x0 (And.intro x1 (And.intro y0 y1)))))))))))
  clear k0 k3 k3n k4 k50 k51 k52 k53 x0 x1 y0 y1
  go_upto_region 3 with fail
  generalize (w3.alloc (.cells #[.int .i64 21, .int .i64 2] 28)) = w4 at *
  obtain ⟨k0, k3, k3n, k4, k50, k51, k52, k53, x0, x1, y0, y1⟩ := HK.out
  go_wp2_with (go_at_call 7; refine HLn.out.mono ?_; clear HLn; rintro e w' ⟨rfl, rfl⟩)
  go_ret
  exact ⟨rfl, HB4.out⟩
end Go.Proofs.YtdobpgakmonnbaaDoor.Tok
