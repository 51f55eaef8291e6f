/- Contracts of layer 4: sealed, and unsealed. -/
import Derived.Test.YtnkhpmpoemodiaaDc
import Derived.Test.YtnkhpmpoemodiaaRf
import Derived.Test.YtnkhpmpoemodiaaJo
import Derived.Test.YtnkhpmpoemodiaaFt
set_option linter.unusedVariables false
namespace Go.Proofs.Ytnkhpmpoemodiaa
open Go.RowKit

/-- The usual polynomial. -/
def usual : Nat := 3988292384
theorem usual_lt : usual < 4294967296 := by decide
theorem moreF_lt (p s : Nat) (zs : List Int) : moreF p s zs < 4294967296 := by unfold moreF; omega
def sealI (zs : List Int) : List Int := zs ++ fixF (moreF usual 0 zs : Nat)
theorem sealI_length (zs : List Int) : (sealI zs).length = zs.length + 4 := by unfold sealI; rw [List.length_append, fixF_length]
/-- The new bytes lie whole in a new block. -/
def WholePost (w : World) (zs : List Int) (e : Ending) (w' : World) : Prop :=
  ∃ g, e = .returned (.slice (some ⟨g, 0, none⟩) zs.length zs.length) ∧ w.heap.size ≤ g ∧ w'.heap[g]? = some (.cells (ivals .u8 zs).toArray 5 (0, 0)) ∧ (∀ x ∈ zs, (Lit.int .u8 x).wf = true) ∧ Below w.heap.size w w'
theorem wis_first (w : World) : ∃ S : Nat → Prop, (∀ k, w.heap.size + 1 ≤ k → S k) ∧ WIs S (w.alloc (.cells #[.pointer none, .int .i64 0] 39)) w.heap.size [] :=
  ⟨fun k => w.heap.size < k, fun k h => h, .pointer none, ⟨0, rfl, rfl⟩, heap_new _ rfl, fun h => Nat.lt_irrefl _ h⟩
theorem TabAt.kept {w w' : World} {T p : Nat} (h : TabAt w T p) (hb : Below w.heap.size w w') : TabAt w' T p := by
  obtain ⟨cur, h1, h2⟩ := h.box
  exact ⟨cur, heap_below h1 hb (heap_lt h1), h2⟩

theorem seal_any (zs : List Int) (B : Nat) (a : Option Addr) (b off cap : Nat) (w : World) (hi : IntsAt .u8 B w a b off zs.length zs) (h0 : a = none → zs.length = 0 ∧ cap = 0) (hB : B ≤ w.heap.size) (hz : zs.length ≤ 60000) :
    Calls Try.prog 61 #[.slice a zs.length cap] w (WholePost w (sealI zs)) := by
  obtain ⟨S, hS, hw⟩ := wis_first w
  have hb1 : Below w.heap.size w (w.alloc (.cells #[.pointer none, .int .i64 0] 39)) := (Below.refl _ _).alloc (Nat.le_refl _) _
  have HI := Lib.hid (fun W (hb : Below w.heap.size w W) => hi.kept hb hB)
  have HR := Lib.hid (wraw_any S _ w.heap.size [] zs B a b off cap (hi.kept hb1 hB) h0 hz hw (fun k hk => hS k (by simpa using hk)) (by simp))
  have HS := Lib.hid hS
  have HMK : Hid (∀ W, Calls Try.prog 58 #[.int .u32 3988292384] W (MakePost W usual)) := Lib.hid (fun W => make_any usual W usual_lt)
  obtain ⟨len, hlen⟩ : ∃ len, zs.length = len := ⟨_, rfl⟩
  rw [hlen] at HR hz ⊢
  have HL := Lib.hid hlen
  have hml := moreF_lt usual 0 zs
  clear hi h0 hw hb1 hS hlen
  go_enter Try.func61, Try.ntmps61
  go_wp2_with fail
  refine HR.out.mono ?_
  rintro e w2 ⟨rfl, hw, hg⟩
  rw [List.nil_append] at hw
  have HB2 := Lib.hid (below_new rfl hg)
  have HW2 := Lib.hid hw
  have hs2 : w.heap.size + 1 ≤ w2.heap.size := by have := hg.size; simpa using this
  clear hw hg HR
  go_wp2_with fail
  refine (HMK.out _).mono ?_
  rintro e w3 ⟨rfl, ht, hB3⟩
  have HB3 := Lib.hid (HB2.out.trans (hB3.mono HB2.out.size))
  have HW3 := Lib.hid (HW2.out.stay (Stay.below hB3))
  have hs3 : w.heap.size + 1 ≤ w3.heap.size := Nat.le_trans hs2 hB3.size
  have HSUM := sum_any usual w2.heap.size usual_lt zs w.heap.size a b off zs.length cap w3 ht ((HI.out w3 HB3.out).mono hB)
  rw [HL.out] at HSUM
  have HSUM2 := Lib.hid HSUM
  clear ht hB3 HB2 HW2 hs2 HSUM
  generalize hsm : moreF usual 0 zs = sm at *
  have HSM := Lib.hid hsm
  clear hsm
  generalize w2.heap.size = T at *
  go_wp2_with fail
  refine HSUM2.out.mono ?_
  rintro e w4 ⟨rfl, rfl⟩
  have HFX := Lib.hid (wfixed_any S w3 w.heap.size zs (sm : Int) (by omega) (by omega) HW3.out (fun k hk => HS.out k (by omega)) (by rw [HL.out]; omega))
  go_wp2_with fail
  refine HFX.out.mono ?_
  rintro e w5 ⟨rfl, hw, hg⟩
  have HB5 := Lib.hid (below_row HB3.out (Nat.le_refl _) hg)
  have HW5 : Hid (WIs S w5 w.heap.size (sealI zs)) := Lib.hid (by unfold sealI; rw [HSM.out]; exact hw)
  clear hw hg HB3 HW3 HFX hs3
  go_wp2_with fail
  refine (wdone_any S w5 w.heap.size (sealI zs) HW5.out (by rw [sealI_length, HL.out]; omega)).mono ?_
  rintro e w6 ⟨he, hheap, hwf, hB6⟩
  subst he
  have HE : Hid (WholePost w (sealI zs) (.returned (.slice (some ⟨w5.heap.size, 0, none⟩) (sealI zs).length (sealI zs).length)) w6) := Lib.hid ⟨w5.heap.size, rfl, HB5.out.size, hheap, hwf, HB5.out.trans (hB6.mono HB5.out.size)⟩
  clear hheap hwf hB6
  go_wp2
  go_ret
  exact HE.out
end Go.Proofs.Ytnkhpmpoemodiaa
