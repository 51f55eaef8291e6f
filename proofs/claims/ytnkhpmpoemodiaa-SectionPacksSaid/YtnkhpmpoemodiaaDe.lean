/- Contract of layer 4: unsealed. -/
import Derived.Test.YtnkhpmpoemodiaaDd
set_option linter.unusedVariables false
namespace Go.Proofs.Ytnkhpmpoemodiaa
open Go.RowKit

def unsealE (zs : List Int) : Nat := if zs.length < 4 then 20 else if wordK (zs.drop (zs.length - 4)) 4 = ((moreF usual 0 (zs.take (zs.length - 4)) : Nat) : Int) then 0 else 44
def unsealB (zs : List Int) : List Int := if unsealE zs = 0 then zs.take (zs.length - 4) else []
def UnsealPost (w : World) (zs : List Int) (e : Ending) (w' : World) : Prop :=
  ∃ a b cap, e = .returned (.tuple #[.slice a (unsealB zs).length cap, .int .i64 (unsealE zs)]) ∧ (unsealB zs).length ≤ cap ∧ (a = none → (unsealB zs).length = 0 ∧ cap = 0) ∧ IntsAt .u8 w'.heap.size w' a b 0 (unsealB zs).length (unsealB zs) ∧
    ((unsealB zs).length = 0 ∨ w.heap.size ≤ b) ∧ ((unsealB zs).length = 0 ∨ ∃ cur, w'.heap[b]? = some (.cells cur 5 (0, 0))) ∧ Below w.heap.size w w'
theorem raw_first (zs : List Int) (m : Nat) (h : m ≤ zs.length) : rtake zs 0 m ⟨0, 0, 0⟩ = (⟨m, 0, 0⟩, zs.take m) := by
  unfold rtake
  rw [if_pos rfl, if_neg (by simp only; omega)]
  simp only [Nat.zero_add, Nat.add_zero, List.drop_zero]
theorem fixed_last (zs : List Int) (m : Nat) (h : m + 4 = zs.length) : rfixed zs ⟨m, 0, 0⟩ = (⟨m + 4, 0, 0⟩, wordK (zs.drop m) 4) := by
  unfold rfixed rtake
  rw [if_pos rfl, if_neg (by simp only; omega)]
  simp only [Nat.add_zero]
  have hl : (zs.drop m).length = 4 := by rw [List.length_drop]; omega
  rw [List.take_of_length_le (by omega), if_neg (by omega)]
theorem fixed_short (zs : List Int) (h : zs.length < 4) : (rfixed zs ⟨0, 0, 0⟩).1 = ⟨0, 20, 0⟩ := by
  unfold rfixed rtake
  rw [if_pos rfl, if_pos (by simp only; omega)]
  rfl
theorem unseal_bad (zs : List Int) (w w' : World) (n : Nat) (hn : unsealE zs = n) (h0 : n ≠ 0) (hB : Below w.heap.size w w') : UnsealPost w zs (.returned (.tuple #[.slice none 0 0, .int .i64 n])) w' := by
  have e : unsealB zs = [] := by unfold unsealB; rw [if_neg (by rw [hn]; exact h0)]
  refine ⟨none, 0, 0, ?_, ?_, ?_, ?_, ?_, ?_, hB⟩ <;> rw [e]
  · rw [hn]; rfl
  · exact Nat.zero_le _
  · exact fun _ => ⟨rfl, rfl⟩
  · exact no_ints _ _
  · exact .inl rfl
  · exact .inl rfl

set_option maxHeartbeats 1000000 in
theorem unseal_any (zs : List Int) (B : Nat) (a : Option Addr) (b off cap : Nat) (w : World) (hi : IntsAt .u8 B w a b off zs.length zs) (h0 : a = none → zs.length = 0 ∧ cap = 0) (hz : zs.length ≤ 60000) :
    Calls Try.prog 68 #[.slice a zs.length cap] w (UnsealPost w zs) := by
  have HO := Lib.hid (open_any (cap := cap) hi h0 (by omega))
  have HMK : Hid (∀ W, Calls Try.prog 58 #[.int .u32 3988292384] W (MakePost W usual)) := Lib.hid (fun W => make_any usual W usual_lt)
  obtain ⟨len, hlen⟩ : ∃ len, zs.length = len := ⟨_, rfl⟩
  have HL := Lib.hid hlen
  rw [hlen] at hz
  have HO2 : Hid (Calls Try.prog 29 #[.slice a len cap] w (OpenPost w zs)) := Lib.hid (by have := HO.out; rw [hlen] at this; exact this)
  obtain ⟨m, hm⟩ : ∃ m : Nat, max ((len : Int) - 4) 0 = (m : Int) := ⟨(max ((len : Int) - 4) 0).toNat, by omega⟩
  have hml : m ≤ len := by omega
  have HRAW : Hid (∀ W R, RIs W R zs ⟨0, 0, 0⟩ → Calls Try.prog 69 #[.pointer (some ⟨R, 0, none⟩), .int .i64 ((len : Int) - 4)] W (RawPost W R zs (⟨m, 0, 0⟩, zs.take m))) := Lib.hid (fun W R hr => by
    have := rraw_any W R zs ⟨0, 0, 0⟩ ((len : Int) - 4) m hm (by omega) (by omega) (by omega) hr
    rw [raw_first zs m (by omega)] at this
    exact this)
  rw [hlen]
  have hlt : (zs.take m).length = m := by rw [List.length_take]; omega
  clear hi h0 HO hlen
  go_enter Try.func68, Try.ntmps68
  go_wp2_with fail
  refine HO2.out.mono ?_
  rintro e w2 ⟨R, rfl, hR, hr, hB⟩
  have HB2 := Lib.hid hB
  have HR0 := Lib.hid hR
  have HRW := Lib.hid (HRAW.out _ _ hr)
  have hRlt : R < w2.heap.size := by obtain ⟨_, _, _, _, hra⟩ := hr; exact heap_lt hra.box
  clear hB hR hr HRAW HO2
  go_wp2_with fail
  refine HRW.out.mono ?_
  rintro e w3 ⟨a3, b3, c3, rfl, hc3, hn3, hI3, hb3, hr, hg, hcel⟩
  simp only at hI3 hb3 hn3 hc3 hcel ⊢
  rw [hlt] at hI3 hb3 hn3 hc3 hcel ⊢
  have HB3 := Lib.hid (below_row HB2.out HR0.out hg)
  have HR3 := Lib.hid hr
  have HRB : Hid (m = 0 ∨ b3 ≠ R) := Lib.hid (by omega)
  have H3 := Lib.hid (And.intro hI3 (And.intro (hb3.imp id (Nat.le_trans HB2.out.size)) (And.intro hn3 (And.intro hc3 hcel))))
  clear hI3 hb3 hn3 hc3 hcel hr hg HB2 HRW hRlt
  have HF := rfixed_any w3 R zs _ HR3.out
  by_cases hs : len < 4
  · obtain rfl : m = 0 := by omega
    have HE : Hid (unsealE zs = 20) := Lib.hid (by unfold unsealE; rw [if_pos (by rw [HL.out]; exact hs)])
    rw [fixed_short zs (by rw [HL.out]; exact hs)] at HF
    generalize (rfixed zs ⟨0, 0, 0⟩).2 = v at *
    have HF2 := Lib.hid HF
    clear HF
    go_wp2_with fail
    refine HF2.out.mono ?_
    rintro e w4 ⟨rfl, hr, hg⟩
    have HB4 := Lib.hid (below_row HB3.out HR0.out hg)
    have HT : Hid (Calls Try.prog 84 #[.pointer (some ⟨R, 0, none⟩)] w4 fun e w' => e = .returned (.agg #[.int .i64 20, .int .i64 0]) ∧ Below w4.heap.size w4 w') := rfault_any w4 R zs _ hr
    clear hr hg HF2 HB3 HR3
    go_wp2_with fail
    refine HT.out.mono ?_
    rintro e w5 ⟨rfl, hB⟩
    have HB5 := Lib.hid (HB4.out.trans (hB.mono HB4.out.size))
    have hfl := run_faultE 20 0
    clear hB HT HB4
    go_wp2
    go_ret2
    exact unseal_bad zs w w5 20 HE.out (by decide) HB5.out
  · rw [fixed_last zs m (by rw [HL.out]; omega)] at HF
    have hm4 : m = len - 4 := by omega
    have HUE : Hid (unsealE zs = if wordK (zs.drop m) 4 = ((moreF usual 0 (zs.take m) : Nat) : Int) then 0 else 44) := Lib.hid (by unfold unsealE; rw [if_neg (by rw [HL.out]; exact hs), HL.out, ← hm4])
    have HUB : Hid (unsealE zs = 0 → unsealB zs = zs.take m) := Lib.hid (fun e => by unfold unsealB; rw [if_pos e, HL.out, ← hm4])
    have HF2 : Hid (Calls Try.prog 90 #[.pointer (some ⟨R, 0, none⟩)] w3 (IntPost .u32 w3 R zs ⟨m + 4, 0, 0⟩ (wordK (zs.drop m) 4))) := HF
    clear HF hm4
    generalize wordK (zs.drop m) 4 = v at *
    go_wp2_with fail
    refine HF2.out.mono ?_
    rintro e w4 ⟨rfl, hr, hg⟩
    have HB4 := Lib.hid (below_row HB3.out HR0.out hg)
    have hst : Stay (fun k => k ≠ R) w3 w4 := Stay.grown hg (fun k e hk => hk (by cases e; rfl))
    have H4 : Hid (IntsAt .u8 w4.heap.size w4 a3 b3 0 m (zs.take m) ∧ (m = 0 ∨ w.heap.size ≤ b3) ∧ (a3 = none → m = 0 ∧ c3 = 0) ∧ m ≤ c3 ∧ (m = 0 ∨ ∃ cur, w4.heap[b3]? = some (.cells cur 5 (0, 0)))) := Lib.hid (by
      obtain ⟨h1, h2, h3, h4, h5⟩ := H3.out
      refine ⟨h1.stay hst HRB.out, h2, h3, h4, ?_⟩
      rcases h5 with h5 | ⟨cur, h5⟩
      · exact .inl h5
      · rcases HRB.out with h6 | h6
        · exact .inl h6
        · exact .inr ⟨cur, heap_kept h5 hg (fun e => h6 (Option.some.inj e))⟩)
    have HT : Hid (Calls Try.prog 84 #[.pointer (some ⟨R, 0, none⟩)] w4 fun e w' => e = .returned (.agg #[.int .i64 0, .int .i64 0]) ∧ Below w4.heap.size w4 w') := rfault_any w4 R zs _ hr
    clear hr hg HF2 HB3 HR3 H3 hst
    go_wp2_with fail
    refine HT.out.mono ?_
    rintro e w5 ⟨rfl, hB5⟩
    have HB5 := Lib.hid (HB4.out.trans (hB5.mono HB4.out.size))
    have hfl := run_faultE 0 0
    go_wp2_with fail
    clear hfl
    refine (HMK.out _).mono ?_
    rintro e w6 ⟨rfl, ht, hB6⟩
    have HB6 := Lib.hid (HB5.out.trans (hB6.mono HB5.out.size))
    have H6 : Hid (IntsAt .u8 w6.heap.size w6 a3 b3 0 m (zs.take m) ∧ (m = 0 ∨ w.heap.size ≤ b3) ∧ (a3 = none → m = 0 ∧ c3 = 0) ∧ m ≤ c3 ∧ (m = 0 ∨ ∃ cur, w6.heap[b3]? = some (.cells cur 5 (0, 0)))) := Lib.hid (by
      obtain ⟨h1, h2, h3, h4, h5⟩ := H4.out
      have hB46 : Below w4.heap.size w4 w6 := hB5.trans (hB6.mono hB5.size)
      refine ⟨(h1.kept hB46 (Nat.le_refl _)).mono hB46.size, h2, h3, h4, ?_⟩
      rcases h5 with h5 | ⟨cur, h5⟩
      · exact .inl h5
      · exact .inr ⟨cur, heap_below h5 hB46 (heap_lt h5)⟩)
    have HSUM := Lib.hid (sum_any usual w5.heap.size usual_lt (zs.take m) _ a3 b3 0 m c3 w6 ht H6.out.1)
    clear hB5 hB6 ht HT HB4 HB5 H4
    generalize w5.heap.size = T at *
    generalize moreF usual 0 (zs.take m) = sm at *
    go_wp2_with fail
    refine HSUM.out.mono ?_
    rintro e w7 ⟨rfl, rfl⟩
    by_cases heq : v = (sm : Int)
    · have he1 : (v == (sm : Int)) = true := by simp [heq]
      have HU0 : Hid (unsealE zs = 0) := Lib.hid (by rw [HUE.out, if_pos heq])
      clear heq HUE HSUM
      go_wp2
      go_ret2
      have e := HUB.out HU0.out
      obtain ⟨h1, h2, h3, h4, h5⟩ := H6.out
      refine ⟨a3, b3, c3, ?_, ?_, ?_, ?_, ?_, ?_, HB6.out⟩
      · rw [e, HU0.out, hlt]; rfl
      all_goals rw [e, hlt]; assumption
    · have he1 : (v == (sm : Int)) = false := by simp [heq]
      have HU0 : Hid (unsealE zs = 44) := Lib.hid (by rw [HUE.out, if_neg heq])
      clear heq HUE HSUM
      go_wp2
      go_ret2
      exact unseal_bad zs w w6 44 HU0.out (by decide) HB6.out
end Go.Proofs.Ytnkhpmpoemodiaa
