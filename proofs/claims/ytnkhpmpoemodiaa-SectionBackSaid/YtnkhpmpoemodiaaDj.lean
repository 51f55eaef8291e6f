/- Plain: what is sealed has one state, and a burst leads to another. -/
import Derived.Test.YtnkhpmpoemodiaaDf
set_option linter.unusedVariables false
namespace Go.Proofs.Ytnkhpmpoemodiaa
open Go.RowKit

theorem nat_of_bv {a b : Nat} (ha : a < 4294967296) (hb : b < 4294967296) (h : BitVec.ofNat 32 a = BitVec.ofNat 32 b) : a = b := by
  have := congrArg BitVec.toNat h
  rw [BitVec.toNat_ofNat, BitVec.toNat_ofNat, Nat.mod_eq_of_lt (by omega), Nat.mod_eq_of_lt (by omega)] at this
  exact this
def nats (zs : List Int) : List Nat := zs.map Int.toNat
theorem nats_length (zs : List Int) : (nats zs).length = zs.length := by unfold nats; exact List.length_map ..
theorem nats_lt {zs : List Int} (h : ∀ x ∈ zs, (Lit.int .u8 x).wf = true) : ∀ c ∈ nats zs, c < 256 := by
  intro c hc
  unfold nats at hc
  obtain ⟨x, hx, rfl⟩ := List.mem_map.1 hc
  have := bounds_u8 (h x hx)
  omega
def pB : BitVec 32 := BitVec.ofNat 32 usual
theorem pB_hi : pB.getLsbD 31 = true := by decide
theorem ofNat_not (x : Nat) (h : x < 4294967296) : BitVec.ofNat 32 (4294967295 - x) = ~~~ BitVec.ofNat 32 x := by
  apply BitVec.eq_of_toNat_eq
  rw [BitVec.toNat_not, BitVec.toNat_ofNat, BitVec.toNat_ofNat, Nat.mod_eq_of_lt (by omega), Nat.mod_eq_of_lt (by omega)]
theorem more_bv (zs : List Int) (h : ∀ x ∈ zs, (Lit.int .u8 x).wf = true) : BitVec.ofNat 32 (moreF usual 0 zs) = ~~~ runB pB (BitVec.allOnes 32) (nats zs) := by
  unfold moreF crcI
  rw [ofNat_not _ (bytesN_lt usual_lt _ _ (by decide))]
  congr 1
  exact bytesN_bv usual_lt (nats zs) 4294967295 (by decide) (nats_lt h)
theorem state_iff (zs : List Int) (hw : ∀ x ∈ zs, (Lit.int .u8 x).wf = true) (h4 : 4 ≤ zs.length) : unsealE zs = 0 ↔ runB pB (BitVec.allOnes 32) (nats zs) = stps pB 32 (BitVec.allOnes 32) := by
  have hsplit : zs = zs.take (zs.length - 4) ++ zs.drop (zs.length - 4) := (List.take_append_drop _ _).symm
  have hl4 : (zs.drop (zs.length - 4)).length = 4 := by rw [List.length_drop]; omega
  have hwt : ∀ x ∈ zs.take (zs.length - 4), (Lit.int .u8 x).wf = true := fun x hx => hw x (List.mem_of_mem_take hx)
  have hwd : ∀ x ∈ zs.drop (zs.length - 4), (Lit.int .u8 x).wf = true := fun x hx => hw x (List.mem_of_mem_drop hx)
  have hu : unsealE zs = 0 ↔ wordK (zs.drop (zs.length - 4)) 4 = ((moreF usual 0 (zs.take (zs.length - 4)) : Nat) : Int) := by
    unfold unsealE
    rw [if_neg (by omega)]
    by_cases h : wordK (zs.drop (zs.length - 4)) 4 = ((moreF usual 0 (zs.take (zs.length - 4)) : Nat) : Int)
    · rw [if_pos h]; exact ⟨fun _ => h, fun _ => rfl⟩
    · rw [if_neg h]; exact ⟨fun e => absurd e (by decide), fun e => absurd e h⟩
  rw [hu]
  have hmb := more_bv _ hwt
  have hml := moreF_lt usual 0 (zs.take (zs.length - 4))
  have hn : nats zs = nats (zs.take (zs.length - 4)) ++ nats (zs.drop (zs.length - 4)) := by
    conv => lhs; rw [hsplit]
    unfold nats
    exact List.map_append
  rw [hn]
  generalize zs.take (zs.length - 4) = l at *
  generalize zs.drop (zs.length - 4) = r at *
  match r, hl4 with
  | [a, b, c, d], _ =>
  have ha := bounds_u8 (hwd a (by simp))
  have hb := bounds_u8 (hwd b (by simp))
  have hc := bounds_u8 (hwd c (by simp))
  have hd := bounds_u8 (hwd d (by simp))
  have hs := sealed_iff pB_hi (nats l) a.toNat b.toNat c.toNat d.toNat (by omega) (by omega) (by omega) (by omega)
  rw [show nats [a, b, c, d] = [a.toNat, b.toNat, c.toNat, d.toNat] from rfl, hs, ← hmb]
  have hw4 : wordK [a, b, c, d] 4 = (word4 a.toNat b.toNat c.toNat d.toNat : Nat) := by
    simp only [wordK, word4, List.getD_cons_zero, List.getD_cons_succ]
    omega
  rw [hw4]
  have hlt4 : word4 a.toNat b.toNat c.toNat d.toNat < 4294967296 := by unfold word4; omega
  constructor
  · intro h
    have : word4 a.toNat b.toNat c.toNat d.toNat = moreF usual 0 l := by omega
    rw [this]
  · intro h
    have := nat_of_bv hlt4 hml h
    omega
theorem unseal_two {zs : List Int} (h4 : 4 ≤ zs.length) (h : unsealE zs ≠ 0) : unsealE zs = 44 := by
  unfold unsealE at h ⊢
  rw [if_neg (by omega)] at h ⊢
  by_cases h' : wordK (zs.drop (zs.length - 4)) 4 = ((moreF usual 0 (zs.take (zs.length - 4)) : Nat) : Int)
  · rw [if_pos h'] at h; exact absurd rfl h
  · rw [if_neg h']
/-- The bits that are turned before step k. -/
def burstK (at0 turn k i : Nat) : Bool := decide (at0 ≤ i) && decide (i < at0 + k) && turn.testBit (i - at0)
theorem turned_found (zs ms : List Int) (at0 turn : Nat) (hw : ∀ x ∈ zs, (Lit.int .u8 x).wf = true) (hm : ∀ x ∈ ms, (Lit.int .u8 x).wf = true) (hl : ms.length = zs.length) (hat : at0 + 32 ≤ 8 * zs.length) (ht : turn < 4294967296) (h0 : turn ≠ 0)
    (h : ∀ i, bitAt (nats ms) i = (bitAt (nats zs) i ^^ burstK at0 turn 32 i)) (hz : unsealE zs = 0) (h4 : 4 ≤ zs.length) : unsealE ms = 44 := by
  refine unseal_two (by omega) (fun e => ?_)
  have h1 := (state_iff zs hw h4).1 hz
  have h2 := (state_iff ms hm (by omega)).1 e
  exact burst_found pB_hi (nats zs) (nats ms) at0 turn (by rw [nats_length, nats_length, hl]) (nats_lt hw) (nats_lt hm) (by rw [nats_length]; exact hat) ht h0 (fun i _ => h i) (BitVec.allOnes 32) (by rw [h1, h2])
theorem burstK_zero (at0 turn i : Nat) : burstK at0 turn 0 i = false := by
  unfold burstK
  by_cases h : at0 ≤ i
  · rw [decide_eq_true h, decide_eq_false (by omega)]; rfl
  · rw [decide_eq_false h]; rfl
theorem burstK_succ (at0 turn k i : Nat) : burstK at0 turn (k + 1) i = (burstK at0 turn k i ^^ (decide (i = at0 + k) && turn.testBit k)) := by
  unfold burstK
  by_cases h1 : at0 ≤ i
  · by_cases h2 : i < at0 + k
    · rw [decide_eq_true h1, decide_eq_true h2, decide_eq_true (show i < at0 + (k + 1) by omega), decide_eq_false (show ¬ i = at0 + k by omega)]
      simp
    · by_cases h3 : i = at0 + k
      · subst h3
        rw [decide_eq_true h1, decide_eq_false h2, decide_eq_true (show at0 + k < at0 + (k + 1) by omega), decide_eq_true rfl, Nat.add_sub_cancel_left]
        simp
      · rw [decide_eq_true h1, decide_eq_false h2, decide_eq_false (show ¬ i < at0 + (k + 1) by omega), decide_eq_false h3]
        simp
  · rw [decide_eq_false h1, decide_eq_false (show ¬ i = at0 + k by omega)]
    simp
/-- One byte with one bit turned. -/
def turnI (ms : List Int) (q : Nat) : List Int := ms.set (q / 8) ((((ms.getD (q / 8) 0).toNat ^^^ 2 ^ (q % 8) : Nat)) : Int)
theorem turnI_nats (ms : List Int) (q : Nat) (hq : q < 8 * ms.length) (i : Nat) : bitAt (nats (turnI ms q)) i = (bitAt (nats ms) i ^^ decide (i = q)) := by
  have e : nats (turnI ms q) = (nats ms).set (q / 8) (((nats ms).getD (q / 8) 0) ^^^ 2 ^ (q % 8)) := by
    have hlt : q / 8 < ms.length := by omega
    unfold nats turnI
    rw [List.map_set, Int.toNat_natCast]
    congr 2
    simp [List.getD, hlt]
  rw [e]
  exact bitAt_set (nats ms) q i (by rw [nats_length]; exact hq)
theorem turnI_wf {ms : List Int} (h : ∀ x ∈ ms, (Lit.int .u8 x).wf = true) (q : Nat) (hq : q / 8 < ms.length) : ∀ x ∈ turnI ms q, (Lit.int .u8 x).wf = true := by
  intro x hx
  unfold turnI at hx
  rcases List.mem_or_eq_of_mem_set hx with h1 | h1
  · exact h x h1
  · subst h1
    have hb := bounds_u8 (h (ms.getD (q / 8) 0) (by simp [List.getD, hq]))
    have h8 : q % 8 < 8 := Nat.mod_lt _ (by decide)
    have h2 : 2 ^ (q % 8) < 2 ^ 8 := Nat.pow_lt_pow_right (by decide) h8
    have h3 : ((ms.getD (q / 8) 0).toNat ^^^ 2 ^ (q % 8)) < 2 ^ 8 := Nat.xor_lt_two_pow (by omega) h2
    exact WalkArith.wf_u8 (by omega)
theorem turnI_length (ms : List Int) (q : Nat) : (turnI ms q).length = ms.length := by unfold turnI; exact List.length_set
end Go.Proofs.Ytnkhpmpoemodiaa
