/- Contract: the example that each statement of layer 22 begins with. -/
import Derived.Test.YtnkhpmpoemodiaaSeL
import Derived.Test.YtnkhpmpoemodiaaSeI
import Derived.Test.YtnkhpmpoemodiaaSeH
import Derived.Test.YtnkhpmpoemodiaaSeE
set_option linter.unusedVariables false
set_option linter.unusedSectionVars false
set_option linter.unusedSimpArgs false
namespace Go.Proofs.Ytnkhpmpoemodiaa.Se
open Go.RowKit Go.Shelf

def exV (p : Nat) : List SecV := [⟨⟨1, [97, 98]⟩, some ⟨p, 0, none⟩, p, 0, 2⟩, ⟨⟨9, []⟩, none, 0, 0, 0⟩]
def exM : List SecM := [⟨1, [97, 98]⟩, ⟨9, []⟩]
def twV : List SecV := [⟨⟨1, []⟩, none, 0, 0, 0⟩, ⟨⟨1, []⟩, none, 0, 0, 0⟩]
theorem ex_secs {w : World} {p q : Nat} (hp : w.heap[p]? = some (.cells #[.int .u8 97, .int .u8 98] 5 (2, 3))) (hq : w.heap[q]? = some (.cells #[.int .u8 1, .slice (some ⟨p, 0, none⟩) 2 2, .int .u8 9, .slice none 0 0] 70 (0, 0))) :
    SecsAt w.heap.size w (some ⟨q, 0, none⟩) q 0 2 2 (exV p) := by
  refine ⟨rows_block (enc := encS) (fit := fitS) (fun _ => rfl) hq rfl (by show 2 ≤ maxLen; decide) (fun x hx => ?_) rfl, fun x hx => ?_, fun e => (by cases e), Nat.le_refl _⟩
  · simp only [exV, List.mem_cons, List.not_mem_nil, or_false] at hx
    rcases hx with rfl | rfl
    · show (Lit.int .u8 1).wf = true; decide
    · show (Lit.int .u8 9).wf = true; decide
  · simp only [exV, List.mem_cons, List.not_mem_nil, or_false] at hx
    rcases hx with rfl | rfl
    · refine ⟨⟨.inr rfl, rfl, by show 2 ≤ maxLen; decide, .inr (heap_lt hp), fun i hi => ?_, by show ∀ n ∈ [(97 : Int), 98], (Lit.int .u8 n).wf = true; decide⟩, fun e => (by cases e), Nat.le_refl _⟩
      have hi2 : i < 2 := hi
      have h2 : i = 0 ∨ i = 1 := by omega
      rcases h2 with rfl | rfl <;> exact heap_cell hp rfl
    · exact ⟨⟨.inl rfl, rfl, Nat.zero_le _, .inl rfl, fun i hi => absurd hi (Nat.not_lt_zero _), fun n hn => by simp at hn⟩, fun _ => ⟨rfl, rfl⟩, Nat.le_refl _⟩
theorem tw_secs {w : World} {q : Nat} (hq : w.heap[q]? = some (.cells #[.int .u8 1, .slice none 0 0, .int .u8 1, .slice none 0 0] 70 (0, 0))) :
    SecsAt w.heap.size w (some ⟨q, 0, none⟩) q 0 2 2 twV := by
  refine ⟨rows_block (enc := encS) (fit := fitS) (fun _ => rfl) hq rfl (by show 2 ≤ maxLen; decide) (fun x hx => ?_) rfl, fun x hx => ?_, fun e => (by cases e), Nat.le_refl _⟩
  · simp only [twV, List.mem_cons, List.not_mem_nil, or_false] at hx
    rcases hx with rfl | rfl <;> (show (Lit.int .u8 1).wf = true; decide)
  · simp only [twV, List.mem_cons, List.not_mem_nil, or_false] at hx
    rcases hx with rfl | rfl <;> exact ⟨⟨.inl rfl, rfl, Nat.zero_le _, .inl rfl, fun i hi => absurd hi (Nat.not_lt_zero _), fun n hn => by simp at hn⟩, fun _ => ⟨rfl, rfl⟩, Nat.le_refl _⟩
theorem ex_small (p : Nat) : ∀ x ∈ exV p, x.m.body.length ≤ 60000 := by
  intro x hx
  simp only [exV, List.mem_cons, List.not_mem_nil, or_false] at hx
  rcases hx with rfl | rfl
  · show 2 ≤ 60000; decide
  · show 0 ≤ 60000; decide
theorem no_secsAt (w : World) : SecsAt w.heap.size w none 0 0 0 0 [] := ⟨RowsAt.nil rfl rfl, fun x hx => by simp at hx, fun _ => ⟨rfl, rfl⟩, Nat.le_refl _⟩
/-- What is packed, where there is no fault. -/
def PkG (n : Nat) (M : List SecM) (w : World) (e : Ending) (w' : World) : Prop :=
  ∃ g, e = .returned (.tuple #[.slice (some ⟨g, 0, none⟩) n n, .int .i64 0]) ∧ Hid (Below w.heap.size w w' ∧ w.heap.size ≤ g ∧ w'.heap[g]? = some (.cells (ivals .u8 (packI M)).toArray 5 (0, 0)) ∧ (∀ x ∈ packI M, (Lit.int .u8 x).wf = true) ∧ (packI M).length = n)
theorem pack_good {w : World} {a : Option Addr} {b off len cap : Nat} {L : List SecV} (h : SecsAt w.heap.size w a b off len cap L) (hl : len ≤ 100000) (hs : ((secsM L).flatMap (·.body)).length ≤ 50000) (he : packE (secsM L) = 0) {n : Nat} (hn : (packI (secsM L)).length = n) :
    Calls Try.prog 34 #[.slice a len cap] w (PkG n (secsM L) w) := by
  refine (pack_any h hl hs).mono ?_
  rintro e w' ⟨a', c, g, rfl, hq⟩
  obtain ⟨h1, -, h2⟩ := hq.out
  obtain ⟨rfl, rfl, h3, h4, h5⟩ := h2 he
  exact ⟨g, by rw [he, hn]; rfl, Lib.hid ⟨h1, h3, h4, h5, hn⟩⟩
theorem pack_fault {w : World} {a : Option Addr} {b off len cap : Nat} {L : List SecV} (h : SecsAt w.heap.size w a b off len cap L) (hl : len ≤ 100000) (hs : ((secsM L).flatMap (·.body)).length ≤ 50000) {n : Nat} (he : packE (secsM L) = n) (h0 : n ≠ 0) :
    Calls Try.prog 34 #[.slice a len cap] w fun e w' => e = .returned (.tuple #[.slice none 0 0, .int .i64 n]) ∧ Below w.heap.size w w' := by
  refine (pack_any h hl hs).mono ?_
  rintro e w' ⟨a', c, g, rfl, hq⟩
  obtain ⟨h1, h2, -⟩ := hq.out
  obtain ⟨rfl, rfl⟩ := h2 (by omega)
  have hp : packI (secsM L) = [] := by unfold packI; rw [if_neg (by omega)]
  exact ⟨by rw [he, hp]; rfl, h1⟩
theorem inner_length (M : List SecM) : (innerI M).length = 4 + (putF M.length).length + (M.flatMap headI).length + (M.flatMap (·.body)).length := by
  unfold innerI
  simp only [List.length_append]
  have : signI.length = 4 := rfl
  omega
/-- What is unpacked, where there is no fault. -/
def UnG (n : Nat) (M : List SecM) (w : World) (e : Ending) (w' : World) : Prop :=
  ∃ a c V, e = .returned (.tuple #[.slice a n c, .int .i64 0]) ∧ Hid (IsSecs w' a n c V ∧ secsM V = M ∧ Below w.heap.size w w')
theorem secs_len {w : World} {a : Option Addr} {n c : Nat} {V : List SecV} (h : IsSecs w a n c V) : (secsM V).length = n := by
  obtain ⟨b, off, h⟩ := h
  unfold secsM
  rw [List.length_map]
  exact h.rows.length
theorem unpack_good {zs : List Int} {B : Nat} {a : Option Addr} {b off cap : Nat} {w : World} (hi : IntsAt .u8 B w a b off zs.length zs) (h0 : a = none → zs.length = 0 ∧ cap = 0) (hz : zs.length ≤ 60000) {M : List SecM} (he : unpE zs = 0) (hl : unpL zs = M) {n : Nat} (hn : M.length = n) {k : Nat} (hk : zs.length = k) :
    Calls Try.prog 39 #[.slice a k cap] w (UnG n M w) := by
  rw [← hk]
  refine (unpack_any zs B a b off cap w hi h0 hz).mono ?_
  rintro e w' ⟨a', n', c, V, rfl, hq⟩
  obtain ⟨h1, h2, -, h3⟩ := hq.out
  rw [hl] at h2
  have h4 := secs_len h1
  rw [h2, hn] at h4
  subst h4
  exact ⟨a', c, V, by rw [he]; rfl, Lib.hid ⟨h1, h2, h3⟩⟩
def UnB (n : Nat) (w : World) (e : Ending) (w' : World) : Prop := ∃ a c, e = .returned (.tuple #[.slice a 0 c, .int .i64 n]) ∧ Hid (Below w.heap.size w w')
theorem unpack_fault {zs : List Int} {B : Nat} {a : Option Addr} {b off cap : Nat} {w : World} (hi : IntsAt .u8 B w a b off zs.length zs) (h0 : a = none → zs.length = 0 ∧ cap = 0) (hz : zs.length ≤ 60000) {n : Nat} (he : unpE zs = n) (hn : n ≠ 0) {k : Nat} (hk : zs.length = k) :
    Calls Try.prog 39 #[.slice a k cap] w (UnB n w) := by
  rw [← hk]
  refine (unpack_any zs B a b off cap w hi h0 hz).mono ?_
  rintro e w' ⟨a', n', c, V, rfl, hq⟩
  obtain ⟨h1, h2, -, h3⟩ := hq.out
  have h4 := secs_len h1
  rw [h2, show unpL zs = [] by unfold unpL; rw [if_neg (by omega)]] at h4
  obtain rfl : n' = 0 := h4.symm
  exact ⟨a', c, by rw [he], Lib.hid h3⟩
theorem ab_conv {w : World} {a : Option Addr} {b cap : Nat} (h : IntsAt .u8 w.heap.size w a b 0 2 [97, 98]) : (convert 45 9 (.slice a 2 cap)).run Try.prog w = .ok (.string ⟨#[97, 98]⟩) w := conv_ints h cap
set_option maxRecDepth 100000 in
set_option maxHeartbeats 4000000 in
theorem alive_any (w : World) : Calls Try.prog 32 #[] w fun e w' => e = .returned (.bool true) ∧ Below w.heap.size w w' := by
  have HP0 : Hid (Calls Try.prog 34 #[.slice none 0 0] w (PkG 9 [] w)) := Lib.hid (pack_good (no_secsAt w) (by decide) (by decide) rfl (by unfold packI; rw [if_pos (show packE (secsM []) = 0 from rfl), sealI_length]; rfl))
  have HU0 : Hid (∀ W : World, Calls Try.prog 39 #[.slice none 0 0] W (UnB 20 W)) := Lib.hid (fun W => unpack_fault (zs := []) (B := W.heap.size) (b := 0) (off := 0) ⟨.inl rfl, rfl, Nat.zero_le _, .inl rfl, fun i hi => absurd hi (Nat.not_lt_zero _), fun n hn => by simp at hn⟩ (fun _ => ⟨rfl, rfl⟩) (by decide) rfl (by decide) rfl)
  go_enter Try.func32, Try.ntmps32
  go_wp2_with fail
  refine HP0.out.mono ?_
  rintro e w1 ⟨g1, rfl, HQ1⟩
  have kc := Go.Joins.run_convert_bytes_const_at (P := Try.prog) w1 45 5 #[.int .u8 97, .int .u8 98] 2 2 w1.heap.size rfl Try.underlying45 Try.underlying5
  have hb2 : Below w1.heap.size w1 ((w1.alloc (.cells #[.int .u8 97, .int .u8 98] 5 (2, 3))).alloc (.cells #[.int .u8 1, .slice (some ⟨w1.heap.size, 0, none⟩) 2 2, .int .u8 9, .slice none 0 0] 70)) := ((Below.refl _ _).alloc (Nat.le_refl _) _).alloc (by simp) _
  have hS2 := ex_secs (w := (w1.alloc (.cells #[.int .u8 97, .int .u8 98] 5 (2, 3))).alloc (.cells #[.int .u8 1, .slice (some ⟨w1.heap.size, 0, none⟩) 2 2, .int .u8 9, .slice none 0 0] 70)) (p := w1.heap.size) (q := w1.heap.size + 1) (heap_alloc (heap_new _ rfl) _) (heap_new _ (by simp))
  go_wp2_with fail
  obtain ⟨p, hp⟩ : ∃ p, w1.heap.size = p := ⟨_, rfl⟩
  have HB2 : Hid (Below w.heap.size w ((w1.alloc (.cells #[.int .u8 97, .int .u8 98] 5 (2, 3))).alloc (.cells #[.int .u8 1, .slice (some ⟨w1.heap.size, 0, none⟩) 2 2, .int .u8 9, .slice none 0 0] 70))) := Lib.hid (HQ1.out.1.trans (hb2.mono HQ1.out.1.size))
  have HS2 := Lib.hid hS2
  clear hb2 hS2 HQ1 kc
  generalize (w1.alloc (.cells #[.int .u8 97, .int .u8 98] 5 (2, 3))).alloc (.cells #[.int .u8 1, .slice (some ⟨w1.heap.size, 0, none⟩) 2 2, .int .u8 9, .slice none 0 0] 70) = W2 at *
  rw [hp] at HS2 ⊢
  clear hp
  have hEM : secsM (exV p) = exM := rfl
  have hPL : (packI exM).length = 23 := by unfold packI; rw [if_pos (show packE exM = 0 from rfl), sealI_length]; rfl
  have HPk : Hid (Calls Try.prog 34 #[.slice (some ⟨p + 1, 0, none⟩) 2 2] W2 (PkG 23 exM W2)) := Lib.hid (by have h := pack_good (n := 23) HS2.out (by decide) (by rw [hEM]; decide) (by rw [hEM]; rfl) (by rw [hEM]; exact hPL); rw [hEM] at h; exact h)
  refine HPk.out.mono ?_
  rintro e w3 ⟨g3, rfl, HQ3⟩
  have HU3 : Hid (Calls Try.prog 39 #[  .slice (some ⟨g3, 0, none⟩) 23 23] w3 (UnG 2 exM w3)) := Lib.hid (unpack_good (zs := packI exM) (whole_ints HQ3.out.2.2.1 HQ3.out.2.2.2.1 (by rw [hPL]; unfold maxLen; decide)) (fun e => by cases e) (by rw [hPL]; decide) (pack_back exM rfl (by decide)).1 (pack_back exM rfl (by decide)).2 rfl hPL)
  clear hPL HPk
  go_wp2_with fail
  refine HU3.out.mono ?_
  rintro e w4 ⟨a4, c4, V4, rfl, HQ4⟩
  have hb5 : Below w4.heap.size w4 (w4.alloc (.cells #[.int .u8 1, .slice none 0 0, .int .u8 1, .slice none 0 0] 70)) := (Below.refl _ _).alloc (Nat.le_refl _) _
  have HS5 : Hid (SecsAt (w4.alloc (.cells #[.int .u8 1, .slice none 0 0, .int .u8 1, .slice none 0 0] 70)).heap.size (w4.alloc (.cells #[.int .u8 1, .slice none 0 0, .int .u8 1, .slice none 0 0] 70)) (some ⟨w4.heap.size, 0, none⟩) w4.heap.size 0 2 2 twV) := Lib.hid (tw_secs (heap_new _ rfl))
  have HP5 : Hid (Calls Try.prog 34 #[.slice (some ⟨w4.heap.size, 0, none⟩) 2 2] (w4.alloc (.cells #[.int .u8 1, .slice none 0 0, .int .u8 1, .slice none 0 0] 70)) fun e w' => e = .returned (.tuple #[.slice none 0 0, .int .i64 46]) ∧ Below (w4.alloc (.cells #[.int .u8 1, .slice none 0 0, .int .u8 1, .slice none 0 0] 70)).heap.size (w4.alloc (.cells #[.int .u8 1, .slice none 0 0, .int .u8 1, .slice none 0 0] 70)) w') := Lib.hid (pack_fault HS5.out (by decide) (by decide) (n := 46) rfl (by decide))
  have HB5 : Hid (Below w.heap.size w (w4.alloc (.cells #[.int .u8 1, .slice none 0 0, .int .u8 1, .slice none 0 0] 70)) ∧ Below W2.heap.size W2 (w4.alloc (.cells #[.int .u8 1, .slice none 0 0, .int .u8 1, .slice none 0 0] 70)) ∧ Below w4.heap.size w4 (w4.alloc (.cells #[.int .u8 1, .slice none 0 0, .int .u8 1, .slice none 0 0] 70))) := Lib.hid (by
    have h24 : Below W2.heap.size W2 w4 := HQ3.out.1.trans (HQ4.out.2.2.mono HQ3.out.1.size)
    exact ⟨(HB2.out.trans (h24.mono HB2.out.size)).trans (hb5.mono (by have := HB2.out.size; have := h24.size; omega)), h24.trans (hb5.mono h24.size), hb5⟩)
  clear hb5 HU3
  go_wp2_with fail
  generalize w4.alloc (.cells #[.int .u8 1, .slice none 0 0, .int .u8 1, .slice none 0 0] 70) = W5 at *
  refine HP5.out.mono ?_
  rintro e w5 ⟨rfl, hb5⟩
  have HB6 : Hid (Below w.heap.size w w5 ∧ Below W2.heap.size W2 w5 ∧ Below w4.heap.size w4 w5) := Lib.hid ⟨HB5.out.1.trans (hb5.mono HB5.out.1.size), HB5.out.2.1.trans (hb5.mono HB5.out.2.1.size), HB5.out.2.2.trans (hb5.mono HB5.out.2.2.size)⟩
  have HU6 := Lib.hid (HU0.out w5)
  clear hb5 HU0 HB5 HS5 HP5
  go_wp2_with fail
  refine HU6.out.mono ?_
  rintro e w6 ⟨a6, c6, rfl, HQ6⟩
  have HB7 : Hid (Below w.heap.size w w6 ∧ Below W2.heap.size W2 w6 ∧ Below w4.heap.size w4 w6) := Lib.hid ⟨HB6.out.1.trans (HQ6.out.mono HB6.out.1.size), HB6.out.2.1.trans (HQ6.out.mono HB6.out.2.1.size), HB6.out.2.2.trans (HQ6.out.mono HB6.out.2.2.size)⟩
  have HF1 := Lib.hid (find_any (HS2.out.on HB7.out.2.1) (ex_small p) 1)
  clear HB6 HU6 HQ6
  go_wp2_with fail
  refine HF1.out.mono ?_
  rintro e w7 ⟨a7, b7, c7, body, ok, rfl, HE7, HQ7⟩
  have hE1 : body = [97, 98] := HE7.out.1.trans (by rw [hEM]; rfl)
  have hE2 : ok = true := HE7.out.2.trans (by rw [hEM]; rfl)
  subst hE1 hE2
  have HB8 : Hid (Below w.heap.size w w7 ∧ Below W2.heap.size W2 w7 ∧ Below w4.heap.size w4 w7) := Lib.hid ⟨HB7.out.1.trans (HQ7.out.2.2.2.mono HB7.out.1.size), HB7.out.2.1.trans (HQ7.out.2.2.2.mono HB7.out.2.1.size), HB7.out.2.2.trans (HQ7.out.2.2.2.mono HB7.out.2.2.size)⟩
  have HF2 := Lib.hid (find_any (HS2.out.on HB8.out.2.1) (ex_small p) 2)
  have HI7 : Hid (IntsAt .u8 w7.heap.size w7 a7 b7 0 2 [97, 98]) := Lib.hid HQ7.out.1
  have hl2 : ([97, 98] : List Int).length = 2 := rfl
  rw [hl2]
  clear HB7 HF1 HE7 HQ7 hl2
  go_wp2_with fail
  refine HF2.out.mono ?_
  rintro e w8 ⟨a8, b8, c8, body, ok, rfl, HE8, HQ8⟩
  have hE2 : ok = false := HE8.out.2.trans (by rw [hEM]; rfl)
  subst hE2
  have HB9 : Hid (Below w.heap.size w w8 ∧ Below W2.heap.size W2 w8 ∧ Below w4.heap.size w4 w8 ∧ Below w7.heap.size w7 w8) := Lib.hid ⟨HB8.out.1.trans (HQ8.out.2.2.2.mono HB8.out.1.size), HB8.out.2.1.trans (HQ8.out.2.2.2.mono HB8.out.2.1.size), HB8.out.2.2.trans (HQ8.out.2.2.2.mono HB8.out.2.2.size), HQ8.out.2.2.2⟩
  obtain ⟨bl8, hbl8⟩ : ∃ bl8, body.length = bl8 := ⟨_, rfl⟩
  rw [hbl8]
  clear HB8 HF2 HE8 HQ8 hbl8
  obtain ⟨b4, o4, hV4⟩ := HQ4.out.1
  have HV4 : Hid (∀ W, Below w4.heap.size w4 W → SecsAt W.heap.size W a4 b4 o4 2 c4 V4) := Lib.hid (fun W hb => hV4.on hb)
  have hVm : secsM V4 = exM := HQ4.out.2.1
  have hVL : V4.length = 2 := by have := congrArg List.length hVm; unfold secsM at this; rw [List.length_map] at this; exact this
  have HA1 := Lib.hid (as_any (cap := c4) (HV4.out w8 HB9.out.2.2.1).rows (by decide))
  have HVM := Lib.hid (And.intro hVm hVL)
  clear hV4 hVm hVL HQ4 HQ3
  go_wp2_with fail
  refine HA1.out.mono ?_
  rintro e w9 ⟨a9, b9, c9, rfl, HQ9⟩
  rw [HVM.out.2] at HQ9 ⊢
  have HB10 : Hid (Below w.heap.size w w9 ∧ Below W2.heap.size W2 w9 ∧ Below w4.heap.size w4 w9 ∧ Below w7.heap.size w7 w9) := Lib.hid ⟨HB9.out.1.trans (HQ9.out.2.mono HB9.out.1.size), HB9.out.2.1.trans (HQ9.out.2.mono HB9.out.2.1.size), HB9.out.2.2.1.trans (HQ9.out.2.mono HB9.out.2.2.1.size), HB9.out.2.2.2.trans (HQ9.out.2.mono HB9.out.2.2.2.size)⟩
  have HA2 := Lib.hid (as_any (cap := 2) (HS2.out.on HB10.out.2.1).rows (by decide))
  clear HA1 HB9
  go_wp2_with fail
  refine HA2.out.mono ?_
  rintro e w10 ⟨a10, b10, c10, rfl, HQ10⟩
  have hXL : (exV p).length = 2 := rfl
  rw [hXL] at HQ10 ⊢
  have HB11 : Hid (Below w.heap.size w w10 ∧ Below W2.heap.size W2 w10 ∧ Below w4.heap.size w4 w10 ∧ Below w7.heap.size w7 w10) := Lib.hid ⟨HB10.out.1.trans (HQ10.out.2.mono HB10.out.1.size), HB10.out.2.1.trans (HQ10.out.2.mono HB10.out.2.1.size), HB10.out.2.2.1.trans (HQ10.out.2.mono HB10.out.2.2.1.size), HB10.out.2.2.2.trans (HQ10.out.2.mono HB10.out.2.2.2.size)⟩
  have HSm : Hid (Calls Try.prog 41 #[.slice a9 2 c9, .slice a10 2 c10] w10 fun e w' => e = .returned (.bool true) ∧ Below w10.heap.size w10 w') := Lib.hid (by
    have h := rsame_any (cap := c9) (cap' := c10) (HQ9.out.1.on HQ10.out.2) (HV4.out w10 HB11.out.2.2.1).inner HQ10.out.1 (HS2.out.on HB11.out.2.1).inner
    rw [show eqS (secsM V4) (secsM (exV p)) = true by rw [HVM.out.1, hEM]; rfl] at h
    exact h)
  have kab := ab_conv (cap := c7) (HI7.out)
  clear HA2 HB10 hXL
  go_wp2_with fail
  refine HSm.out.mono ?_
  rintro e w11 ⟨rfl, hb11⟩
  have HB12 : Hid (Below w.heap.size w w11 ∧ Below W2.heap.size W2 w11 ∧ Below w7.heap.size w7 w11) := Lib.hid ⟨HB11.out.1.trans (hb11.mono HB11.out.1.size), HB11.out.2.1.trans (hb11.mono HB11.out.2.1.size), HB11.out.2.2.2.trans (hb11.mono HB11.out.2.2.2.size)⟩
  have kab2 := ab_conv (cap := c7) ((HI7.out.kept HB12.out.2.2 (Nat.le_refl _)).mono HB12.out.2.2.size)
  have HTg : Hid (Calls Try.prog 38 #[.slice (some ⟨p + 1, 0, none⟩) 2 2, .int .i64 9] w11 fun e w' => ∃ a c, e = .returned (.slice a 2 c) ∧ Below w11.heap.size w11 w') := Lib.hid ((ltags_any (HS2.out.on HB12.out.2.1) (by decide) 9).mono (fun e w' ⟨h1, v, h2, h3⟩ => by
    obtain ⟨a, c, b, h4, _⟩ := h3.ints (k := .u8) rfl (by show ∀ n ∈ [(1 : Int), 9], (Lit.int .u8 n).wf = true; decide)
    subst h4
    exact ⟨a, c, h2, h1⟩))
  clear kab HSm HB11 hb11 HQ9 HQ10
  have hst : (([97, 98] : List UInt8) == [97, 98]) = true := by decide
  go_wp2_with fail
  refine HTg.out.mono ?_
  rintro e w12 ⟨a12, c12, rfl, hb12⟩
  have HF : Hid (Below w.heap.size w w12) := Lib.hid (HB12.out.1.trans (hb12.mono HB12.out.1.size))
  clear hb12 kab2
  go_wp2
  go_ret
  exact ⟨rfl, HF.out⟩
end Go.Proofs.Ytnkhpmpoemodiaa.Se
