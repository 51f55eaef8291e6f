/- The walk of DigestCuts. -/
import Derived.Test.YtlnocekiaffbpaaDh
set_option linter.unusedVariables false
namespace Go.Proofs.Ytlnocekiaffbpaa
open Go.RowKit

theorem heap_cell_inv {w : World} {W : Nat} {cs : Array Value} {t : TypeId} {fr : Nat × Nat} (h : w.heap[W]? = some (.cells cs t fr)) {i : Nat} {v : Value} (hv : w.cell? ⟨W, i, none⟩ = some v) : cs[i]? = some v := by
  simpa [World.cell?, h] using hv
/-- A slice's own block with bytes in it, whatever they are. -/
def Own8 (w : World) (b len : Nat) : Prop := ∃ cur : Array Value, w.heap[b]? = some (.cells cur 5 (0, 0)) ∧ ∀ j, j < len → ∃ x, cur[j]? = some (.int .u8 x)
theorem own8_of {w : World} {a : Option Addr} {b len : Nat} {zs : List Int} (hi : IntsAt .u8 w.heap.size w a b 0 len zs) (h : len = 0 ∨ ∃ cur, w.heap[b]? = some (.cells cur 5 (0, 0))) : len = 0 ∨ Own8 w b len := by
  rcases h with h | ⟨cur, h⟩
  · exact .inl h
  · refine .inr ⟨cur, h, fun j hj => ⟨zs.getD j 0, heap_cell_inv h ?_⟩⟩
    have := hi.cell j hj
    rwa [Nat.zero_add] at this
theorem Own8.set {w : World} {b len : Nat} (h : Own8 w b len) (k : Nat) (x : Int) : Own8 (w.setCell ⟨b, k, none⟩ (.int .u8 x)) b len := by
  obtain ⟨cur, h1, h2⟩ := h
  refine ⟨_, heap_set h1 k _, fun j hj => ?_⟩
  rw [Array.getElem?_setIfInBounds]
  by_cases hjk : k = j
  · subst hjk
    obtain ⟨y, hy⟩ := h2 k hj
    rw [if_pos rfl, if_pos (Array.getElem?_eq_some_iff.1 hy).1]
    exact ⟨_, rfl⟩
  · rw [if_neg hjk]; exact h2 j hj
theorem seal_at (zs : List Int) (i : Nat) (hi : i < 4) : (sealI zs).getD (zs.length + i) 0 = (fixF (moreF usual 0 zs : Nat)).getD i 0 := by
  unfold sealI
  simp only [List.getD]
  rw [List.getElem?_append_right (by omega), Nat.add_sub_cancel_left]

set_option maxRecDepth 100000 in
set_option maxHeartbeats 1000000 in
theorem walk_DigestCuts (a0 : Option Addr) (len0 cap0 : Nat) (z0 : List Int) (w : World) (w0 : IsRow .u8 w a0 len0 cap0 z0) :
    Calls Try.prog 12 #[.slice a0 len0 cap0] w fun e w' => e = .returned (.bool true) ∧ Below w.heap.size w w' := by
  have hcap := w0.cap
  have hnil : a0 = none → len0 = 0 ∧ cap0 = 0 := by intro h; subst h; exact w0.nil
  obtain ⟨b, off, hi⟩ := w0.ints
  have hsm := hi.small
  unfold maxLen at hsm
  clear w0
  have hl := hi.length
  generalize z0.take len0 = z at *
  have HL := Lib.hid hl
  have HI := Lib.hid (fun W (hb : Below w.heap.size w W) => (hi.kept hb (Nat.le_refl _)).mono hb.size)
  have HWF := Lib.hid hi.fits
  by_cases h300 : 300 < len0
  · clear hl hi
    go_enter Try.func12, Try.ntmps12
    go_wp2_with fail
    refine (dalive_any _).mono ?_
    rintro e w2 ⟨rfl, hB⟩
    have HB2 := Lib.hid hB
    clear hB
    go_wp2
    go_ret
    exact ⟨rfl, HB2.out⟩
  have HS : Hid (∀ W, Below w.heap.size w W → Calls Try.prog 48 #[.slice a0 len0 cap0] W (WholePost W (sealI z))) := Lib.hid (fun W hb => by
    have := seal_any z W.heap.size a0 b off cap0 W (by rw [hl]; exact HI.out W hb) (by rw [hl]; exact hnil) (Nat.le_refl _) (by omega)
    rw [hl] at this; exact this)
  have HMK : Hid (∀ W, Calls Try.prog 40 #[.int .u32 3988292384] W (MakePost W usual)) := Lib.hid (fun W => make_any usual W usual_lt)
  have HSUM : Hid (∀ W T, Below w.heap.size w W → TabAt W T usual → Calls Try.prog 41 #[.pointer (some ⟨T, 0, none⟩), .slice a0 len0 cap0] W fun e w' => e = .returned (.int .u32 (moreF usual 0 z)) ∧ W = w') := Lib.hid (fun W T hb ht => sum_any usual T usual_lt z _ a0 b off len0 cap0 W ht (HI.out W hb))
  have hs1 : (sealI z).length = len0 + 4 := by rw [sealI_length, hl]
  have hs2 : (sealI (sealI z)).length = len0 + 8 := by rw [sealI_length, hs1]
  have HSL := Lib.hid (And.intro hs1 hs2)
  have HWS := Lib.hid (seal_wf HWF.out)
  have hu1 := unseal_seal z HWF.out
  have hu2 := unseal_seal (sealI z) HWS.out
  have HU := Lib.hid (And.intro hu1 hu2)
  have hsmlt := moreF_lt usual 0 z
  have HAT0 : Hid ((sealI z).getD len0 0 = (moreF usual 0 z : Nat) % 256) := Lib.hid (by have := seal_at z 0 (by decide); rw [hl] at this; exact this)
  have HAT3 : Hid ((sealI z).getD (len0 + 3) 0 = (moreF usual 0 z : Nat) / 16777216) := Lib.hid (by
    have := seal_at z 3 (by decide)
    rw [hl] at this
    rw [this]
    show ((moreF usual 0 z : Nat) : Int) / 16777216 % 256 = _
    omega)
  generalize hn : moreF usual 0 z = n at *
  clear hl hi hs1 hs2 hu1 hu2 hn
  go_enter Try.func12, Try.ntmps12
  go_wp2_with fail
  refine (dalive_any _).mono ?_
  rintro e w2 ⟨rfl, hB⟩
  have HB2 := Lib.hid hB
  clear hB
  go_wp2_with fail
  refine (HS.out _ HB2.out).mono ?_
  rintro e w3 ⟨g, he, hg, hheap, hwf, hB3⟩
  rw [HSL.out.1] at he
  subst he
  have HB3 := Lib.hid (HB2.out.trans (hB3.mono HB2.out.size))
  have HH3 := Lib.hid hheap
  have HG : Hid (w.heap.size ≤ g) := Lib.hid (Nat.le_trans HB2.out.size hg)
  have hI3 := whole_ints hheap hwf (by rw [HSL.out.1]; unfold maxLen; omega)
  have HT := seal_any (sealI z) w3.heap.size _ g 0 (len0 + 4) w3 hI3 (fun e => by cases e) (Nat.le_refl _) (by rw [HSL.out.1]; omega)
  rw [HSL.out.1] at HT
  have HT3 := Lib.hid HT
  clear hg hheap hwf hB3 hI3 HT HB2
  go_wp2_with fail
  refine HT3.out.mono ?_
  rintro e w4 ⟨g4, he, hg4, hheap, hwf, hB4⟩
  rw [HSL.out.2] at he
  subst he
  have HB4 := Lib.hid (HB3.out.trans (hB4.mono HB3.out.size))
  have HH4 := Lib.hid (heap_below HH3.out hB4 (heap_lt HH3.out))
  have hI4 := whole_ints hheap hwf (by rw [HSL.out.2]; unfold maxLen; omega)
  have hU := unseal_any (sealI (sealI z)) w4.heap.size _ g4 0 (len0 + 8) w4 hI4 (fun e => by cases e) (by rw [HSL.out.2]; omega)
  rw [HSL.out.2] at hU
  have HU4 := Lib.hid hU
  clear hg4 hheap hwf hB4 hI4 hU HB3 HH3 HT3
  go_wp2_with fail
  refine HU4.out.mono ?_
  rintro e w5 ⟨ax, bx, cx, he, hcx, hnx, hIx, hbx, _, hB5⟩
  rw [HU.out.2.1, HU.out.2.2] at he
  rw [HU.out.2.2] at hIx hnx hcx
  rw [HSL.out.1] at he hIx hnx hcx
  have he2 : e = .returned (.tuple #[.slice ax (len0 + 4) cx, .int .i64 0]) := he
  subst he2
  have HB5 := Lib.hid (HB4.out.trans (hB5.mono HB4.out.size))
  have HH5 := Lib.hid (heap_below HH4.out hB5 (heap_lt HH4.out))
  have HIX := Lib.hid hIx
  have hU := unseal_any (sealI z) w5.heap.size ax bx 0 cx w5 (by rw [HSL.out.1]; exact hIx) (by rw [HSL.out.1]; exact hnx) (by rw [HSL.out.1]; omega)
  rw [HSL.out.1] at hU
  have HU5 := Lib.hid hU
  clear he hcx hnx hIx hbx hB5 hU HB4 HH4 HU4
  go_wp2_with fail
  refine HU5.out.mono ?_
  rintro e w6 ⟨ay, bY, cy, he, hcy, hny, hIy, hby, hoy, hB6⟩
  rw [HU.out.1.1, HU.out.1.2] at he
  rw [HU.out.1.2] at hIy hny hcy hby hoy
  rw [HL.out] at he hIy hny hcy hby hoy
  have he2 : e = .returned (.tuple #[.slice ay len0 cy, .int .i64 0]) := he
  subst he2
  have HB6 := Lib.hid (HB5.out.trans (hB6.mono HB5.out.size))
  have HH6 := Lib.hid (heap_below HH5.out hB6 (heap_lt HH5.out))
  have HBY : Hid (len0 = 0 ∨ g < bY) := Lib.hid (by have := heap_lt HH5.out; omega)
  have HBYW : Hid (len0 = 0 ∨ w.heap.size ≤ bY) := Lib.hid (by have := HB5.out.size; omega)
  have HOY := Lib.hid (own8_of hIy hoy)
  have HSA1 := Lib.hid (same_yes ((HIX.out.kept hB6 (Nat.le_refl _)).mono hB6.size) (by have := whole_ints HH6.out HWS.out (by rw [HSL.out.1]; unfold maxLen; omega); rw [HSL.out.1] at this; exact this) cx (len0 + 4))
  have HSA2 := Lib.hid (same_yes hIy (HI.out _ HB6.out) cy cap0)
  have HAY : Hid (len0 = 0 ∨ ay = some ⟨bY, 0, none⟩) := Lib.hid hIy.addr
  clear he hcy hny hIy hby hoy hB6 HB5 HH5 HU5 HIX
  go_wp2_with fail
  refine HSA1.out.mono ?_
  rintro e w7 ⟨rfl, rfl⟩
  go_wp2_with fail
  refine HSA2.out.mono ?_
  rintro e w7 ⟨rfl, rfl⟩
  clear HSA1 HSA2
  go_wp2
  go_loopw [60] (fun i wr => ∃ k : Nat, k ≤ len0 ∧ i = .int .i64 k ∧ Hid (len0 = 0 ∨ Own8 wr bY len0) ∧ Hid (wr.heap[g]? = some (.cells (ivals .u8 (sealI z)).toArray 5 (0, 0))) ∧ Hid (Below w.heap.size w wr)) (fun i _ => len0 - (intOf i).toNat)
  case atStart => exact ⟨0, Nat.zero_le _, rfl, HOY, HH6, HB6⟩
  case round =>
    obtain ⟨k, hk, rfl, ho, hh, hB⟩ := hrel
    clear HOY HH6 HB6
    by_cases hlt : k < len0
    · obtain ⟨cur, h1, h2⟩ := ho.out.resolve_left (by omega)
      obtain ⟨x, hx⟩ := h2 k hlt
      have hc := heap_cell h1 hx
      have hf := heap_frozen h1 k
      have hblk := heap_lt h1
      obtain rfl : ay = some ⟨bY, 0, none⟩ := HAY.out.resolve_left (by omega)
      clear h1 h2 hx
      go_wp2
      go_roundw
      case rel =>
        refine ⟨k + 1, by omega, by go_num, Lib.hid (.inr ((ho.out.resolve_left (by omega)).set k _)), Lib.hid (heap_other hh.out (by have := HBY.out; omega) k _), Lib.hid (hB.out.setCell (by have := HBYW.out; show w.heap.size ≤ bY; omega) _)⟩
      case measure => simp [intOf]; omega
    · obtain rfl : k = len0 := by omega
      go_wp2_with fail
      refine (HMK.out _).mono ?_
      rintro e w8 ⟨rfl, ht, hB8⟩
      have HB8 := Lib.hid (hB.out.trans (hB8.mono hB.out.size))
      have HH8 := Lib.hid (heap_below hh.out hB8 (heap_lt hh.out))
      have HS8 := Lib.hid (HSUM.out _ _ HB8.out ht)
      clear ht hB8 ho hh hB
      go_wp2_with fail
      refine HS8.out.mono ?_
      rintro e w9 ⟨rfl, rfl⟩
      have hI8 := whole_ints HH8.out HWS.out (by rw [HSL.out.1]; unfold maxLen; omega)
      have hU := unseal_any (sealI z) w8.heap.size _ g 0 (k + 4) w8 hI8 (fun e => by cases e) (by rw [HSL.out.1]; omega)
      rw [HSL.out.1] at hU
      have HU8 := Lib.hid hU
      clear hI8 hU HS8
      go_wp2_with fail
      refine HU8.out.mono ?_
      rintro e w10 ⟨aa, ba, ca, he, _, _, hIa, _, _, hB10⟩
      rw [HU.out.1.1, HU.out.1.2] at he
      rw [HU.out.1.2] at hIa
      rw [HL.out] at he hIa
      have he2 : e = .returned (.tuple #[.slice aa k ca, .int .i64 0]) := he
      subst he2
      have HB10 := Lib.hid (HB8.out.trans (hB10.mono HB8.out.size))
      have hh10 := heap_below HH8.out hB10 (heap_lt HH8.out)
      have HSA := Lib.hid (same_yes hIa (HI.out _ HB10.out) ca cap0)
      have hI10 := whole_ints hh10 HWS.out (by rw [HSL.out.1]; unfold maxLen; omega)
      have d0 := hI10.cell k (by rw [HSL.out.1]; omega)
      have d3 := hI10.cell (k + 3) (by rw [HSL.out.1]; omega)
      rw [Nat.zero_add, HAT0.out] at d0
      rw [Nat.zero_add, HAT3.out] at d3
      clear he hIa hB10 hh10 hI10 HU8 HB8 HH8
      go_wp2_with fail
      refine HSA.out.mono ?_
      rintro e w11 ⟨rfl, rfl⟩
      go_wp2
      go_ret
      exact ⟨rfl, HB10.out⟩
end Go.Proofs.Ytlnocekiaffbpaa
