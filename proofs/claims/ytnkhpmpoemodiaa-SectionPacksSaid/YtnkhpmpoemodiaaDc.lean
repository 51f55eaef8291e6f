/- Contracts of layer 4: sums by a table, and by the reference. -/
import Derived.Test.YtnkhpmpoemodiaaDb
set_option linter.unusedVariables false
namespace Go.Proofs.Ytnkhpmpoemodiaa
open Go.RowKit

def crcI (p m : Nat) (zs : List Int) : Nat := bytesN p m (zs.map Int.toNat)
def moreF (p s : Nat) (zs : List Int) : Nat := 4294967295 - crcI p (4294967295 - s) zs
theorem crcI_cons (p m : Nat) (c : Int) (l : List Int) : crcI p m (c :: l) = crcI p (byteN p m c.toNat) l := rfl
theorem crcI_lt {p m : Nat} (hp : p < 4294967296) (hm : m < 4294967296) (zs : List Int) : crcI p m zs < 4294967296 := bytesN_lt hp _ _ hm
theorem xor_low (m c : Nat) (hc : c < 256) : (m ^^^ c) % 256 = (m % 256) ^^^ c := by
  rw [show (256 : Nat) = 2 ^ 8 by decide, Nat.xor_mod_two_pow, Nat.mod_eq_of_lt (show c < 2 ^ 8 by omega)]
theorem xor_u8 (a b : Nat) (ha : a < 256) (hb : b < 256) : bits .xor .u8 (a : Int) (b : Int) = ((a ^^^ b : Nat) : Int) := by
  have hx : a ^^^ b < 2 ^ 8 := Nat.xor_lt_two_pow (by omega) (by omega)
  have h1 : (BitVec.ofInt 8 (a : Int)).toNat = a := by
    rw [BitVec.ofInt_natCast, BitVec.toNat_ofNat]; exact Nat.mod_eq_of_lt (by omega)
  have h2 : (BitVec.ofInt 8 (b : Int)).toNat = b := by
    rw [BitVec.ofInt_natCast, BitVec.toNat_ofNat]; exact Nat.mod_eq_of_lt (by omega)
  show IntKind.u8.wrap ((BitVec.ofInt 8 (a : Int) ^^^ BitVec.ofInt 8 (b : Int)).toNat : Nat) = _
  rw [BitVec.toNat_xor, h1, h2, IntKind.wrap_u8]
  omega
theorem not_u32 (s : Nat) (hs : s < 4294967296) : bits .xor .u32 IntKind.u32.max (s : Int) = ((4294967295 - s : Nat) : Int) := by
  have h1 : BitVec.ofInt 32 IntKind.u32.max = BitVec.allOnes 32 := by decide
  have h2 : (BitVec.ofInt 32 (s : Int)).toNat = s := by
    rw [BitVec.ofInt_natCast, BitVec.toNat_ofNat]; exact Nat.mod_eq_of_lt (by omega)
  show IntKind.u32.wrap ((BitVec.ofInt 32 IntKind.u32.max ^^^ BitVec.ofInt 32 (s : Int)).toNat : Nat) = _
  rw [h1, BitVec.allOnes_xor, BitVec.toNat_not, h2, IntKind.wrap_u32]
  omega

theorem more_any (p T : Nat) (hp : p < 4294967296) (s : Nat) (hs : s < 4294967296) (zs : List Int) (B : Nat) (a : Option Addr) (b off len cap : Nat) (w : World) (ht : TabAt w T p) (h : IntsAt .u8 B w a b off len zs) :
    Calls Try.prog 87 #[.pointer (some ⟨T, 0, none⟩), .int .u32 s, .slice a len cap] w fun e w' => e = .returned (.int .u32 (moreF p s zs)) ∧ w = w' := by
  have H := Lib.hid h
  have hm := h.small
  unfold maxLen at hm
  have hn1 := not_u32 s hs
  generalize hfin : moreF p s zs = fin
  have HF : Hid (fin = 4294967295 - crcI p (4294967295 - s) zs) := hfin.symm
  have HP := Lib.hid hp
  obtain ⟨cur, hbx, hval⟩ := ht
  have HV : Hid (∀ j, j < 256 → w.cell? ⟨T, j, none⟩ = some (.int .u32 (stepsN p 8 j))) := Lib.hid (fun j hj => heap_cell hbx (hval j hj))
  have hT := heap_lt hbx
  clear h hfin hbx hval hp
  go_enter Try.func87, Try.ntmps87
  go_wp2
  go_loop [7, 14] (fun x i => ∃ k m : Nat, k ≤ len ∧ i = .int .i64 k ∧ x = .int .u32 m ∧ m < 4294967296 ∧ Hid (fin = 4294967295 - crcI p m (zs.drop k))) (fun _ i => len - (intOf i).toNat)
  case atStart => exact ⟨0, 4294967295 - s, Nat.zero_le _, rfl, rfl, by omega, HF⟩
  case round =>
    obtain ⟨k, m, hk, rfl, rfl, hm32, hs2⟩ := hrel
    clear hn1
    by_cases hlt : k < len
    · have hlz : k < zs.length := by rw [H.out.length]; exact hlt
      have hcell := H.out.cell k hlt
      have hbd : 0 ≤ zs.getD k 0 ∧ zs.getD k 0 ≤ 255 := bounds_u8 (H.out.fits _ (by simp [List.getD, hlz]))
      obtain rfl : a = some ⟨b, off, none⟩ := H.out.addr.resolve_left (by omega)
      have hgo := hs2.out
      rw [drop_cons hlz, crcI_cons] at hgo
      clear hlz hs2
      generalize zs.getD k 0 = c0 at *
      obtain ⟨c, rfl⟩ : ∃ c : Nat, c0 = (c : Int) := ⟨c0.toNat, by omega⟩
      have hc : c < 256 := by omega
      rw [Int.toNat_natCast] at hgo
      have h8 := xor_u8 (m % 256) c (by omega) hc
      rw [← xor_low m c hc, Int.natCast_emod] at h8
      have hj : (m ^^^ c) % 256 < 256 := Nat.mod_lt _ (by decide)
      have hcj := HV.out _ hj
      have hst : stepsN p 8 ((m ^^^ c) % 256) < 4294967296 := stepsN_lt HP.out 8 _ (by omega)
      have hx := xor_u32 (stepsN p 8 ((m ^^^ c) % 256)) (m / 256) hst (by omega)
      rw [show stepsN p 8 ((m ^^^ c) % 256) ^^^ (m / 256) = byteN p m c from rfl, show ((m / 256 : Nat) : Int) = (m : Int) / 256 by omega] at hx
      have hb32 := byteN_lt (c := c) HP.out hm32
      generalize stepsN p 8 ((m ^^^ c) % 256) = st at *
      generalize byteN p m c = y at *
      generalize (m ^^^ c) % 256 = j at *
      have HG : Hid (fin = 4294967295 - crcI p y (zs.drop (k + 1))) := hgo
      have h8b : bits .xor .u8 ((m : Int) % 256) (c : Int) = (j : Int) := h8
      clear hgo h8
      go_wp2
      go_round
      case rel => exact ⟨k + 1, y, by omega, by go_num, by go_num, hb32, HG⟩
      case measure => simp [intOf]; omega
    · obtain rfl : k = len := by omega
      have HE : Hid (fin = 4294967295 - m) := Lib.hid (by
        rw [hs2.out, List.drop_of_length_le (by rw [H.out.length]; exact Nat.le_refl _)]; rfl)
      have hn2 := not_u32 m hm32
      clear hs2
      go_wp2
      go_ret
      exact ⟨retn HE.out.symm, rfl⟩
theorem sum_any (p T : Nat) (hp : p < 4294967296) (zs : List Int) (B : Nat) (a : Option Addr) (b off len cap : Nat) (w : World) (ht : TabAt w T p) (h : IntsAt .u8 B w a b off len zs) :
    Calls Try.prog 60 #[.pointer (some ⟨T, 0, none⟩), .slice a len cap] w fun e w' => e = .returned (.int .u32 (moreF p 0 zs)) ∧ w = w' := by
  have HM : Hid (Calls Try.prog 87 #[.pointer (some ⟨T, 0, none⟩), .int .u32 0, .slice a len cap] w fun e w' => e = .returned (.int .u32 (moreF p 0 zs)) ∧ w = w') := more_any p T hp 0 (by decide) zs B a b off len cap w ht h
  clear h ht
  generalize moreF p 0 zs = fin at *
  go_enter Try.func60, Try.ntmps60
  go_wp2_with fail
  refine HM.out.mono ?_
  rintro e w2 ⟨rfl, rfl⟩
  go_wp2
  go_ret
  exact ⟨rfl, rfl⟩
set_option maxRecDepth 100000 in
set_option maxHeartbeats 1000000 in
theorem rmore_any (p : Nat) (hp : p < 4294967296) (s : Nat) (hs : s < 4294967296) (zs : List Int) (B : Nat) (a : Option Addr) (b off len cap : Nat) (w : World) (h : IntsAt .u8 B w a b off len zs) :
    Calls Try.prog 63 #[.int .u32 p, .int .u32 s, .slice a len cap] w fun e w' => e = .returned (.int .u32 (moreF p s zs)) ∧ w = w' := by
  have H := Lib.hid h
  have hm := h.small
  unfold maxLen at hm
  have hn1 := not_u32 s hs
  generalize hfin : moreF p s zs = fin
  have HF : Hid (fin = 4294967295 - crcI p (4294967295 - s) zs) := hfin.symm
  have HP := Lib.hid hp
  have HST : Hid (∀ n : Nat, n < 4294967296 → ∀ W, Calls Try.prog 88 #[.int .u32 n, .int .u32 p] W fun e w' => e = .returned (.int .u32 (stepsN p 8 n)) ∧ W = w') := Lib.hid (fun (n : Nat) hn W => steps_any n p W hn hp)
  clear h hfin hp
  go_enter Try.func63, Try.ntmps63
  go_wp2
  go_loop [7, 8] (fun x i => ∃ k m : Nat, k ≤ len ∧ i = .int .i64 k ∧ x = .int .u32 m ∧ m < 4294967296 ∧ Hid (fin = 4294967295 - crcI p m (zs.drop k))) (fun _ i => len - (intOf i).toNat)
  case atStart => exact ⟨0, 4294967295 - s, Nat.zero_le _, rfl, rfl, by omega, HF⟩
  case round =>
    obtain ⟨k, m, hk, rfl, rfl, hm32, hs2⟩ := hrel
    clear hn1
    by_cases hlt : k < len
    · have hlz : k < zs.length := by rw [H.out.length]; exact hlt
      have hcell := H.out.cell k hlt
      have hbd : 0 ≤ zs.getD k 0 ∧ zs.getD k 0 ≤ 255 := bounds_u8 (H.out.fits _ (by simp [List.getD, hlz]))
      obtain rfl : a = some ⟨b, off, none⟩ := H.out.addr.resolve_left (by omega)
      have hgo := hs2.out
      rw [drop_cons hlz, crcI_cons] at hgo
      clear hlz hs2
      generalize zs.getD k 0 = c0 at *
      obtain ⟨c, rfl⟩ : ∃ c : Nat, c0 = (c : Int) := ⟨c0.toNat, by omega⟩
      have hc : c < 256 := by omega
      rw [Int.toNat_natCast] at hgo
      have h8 := xor_u32 (m % 256) c (by omega) (by omega)
      rw [← xor_low m c hc, Int.natCast_emod] at h8
      have hj : (m ^^^ c) % 256 < 256 := Nat.mod_lt _ (by decide)
      have hst : stepsN p 8 ((m ^^^ c) % 256) < 4294967296 := stepsN_lt HP.out 8 _ (by omega)
      have hx := xor_u32 (stepsN p 8 ((m ^^^ c) % 256)) (m / 256) hst (by omega)
      rw [show stepsN p 8 ((m ^^^ c) % 256) ^^^ (m / 256) = byteN p m c from rfl, show ((m / 256 : Nat) : Int) = (m : Int) / 256 by omega] at hx
      have hb32 := byteN_lt (c := c) HP.out hm32
      have HC := Lib.hid (HST.out ((m ^^^ c) % 256) (by omega) w)
      generalize stepsN p 8 ((m ^^^ c) % 256) = st at *
      generalize byteN p m c = y at *
      generalize (m ^^^ c) % 256 = j at *
      have HG : Hid (fin = 4294967295 - crcI p y (zs.drop (k + 1))) := hgo
      have h8b : bits .xor .u32 ((m : Int) % 256) (c : Int) = (j : Int) := h8
      clear hgo h8
      go_wp2_with fail
      refine HC.out.mono ?_
      rintro e w2 ⟨rfl, rfl⟩
      go_wp2
      go_round
      case rel => exact ⟨k + 1, y, by omega, by go_num, by go_num, hb32, HG⟩
      case measure => simp [intOf]; omega
    · obtain rfl : k = len := by omega
      have HE : Hid (fin = 4294967295 - m) := Lib.hid (by
        rw [hs2.out, List.drop_of_length_le (by rw [H.out.length]; exact Nat.le_refl _)]; rfl)
      have hn2 := not_u32 m hm32
      clear hs2
      go_wp2
      go_ret
      exact ⟨retn HE.out.symm, rfl⟩
end Go.Proofs.Ytnkhpmpoemodiaa
