/- Contracts of a writer's calls: what each lays behind. -/
import Derived.Test.YtnkhpmpoemodiaaWa
import Derived.Laws.IdiomStrings
import Derived.Laws.CopyOwn
set_option linter.unusedVariables false
namespace Go.Proofs.Ytnkhpmpoemodiaa
open Go.RowKit

/-- A text's bytes as numbers. -/
def strI (s : ByteArray) : List Int := s.data.toList.map fun b => (b.toNat : Int)
theorem strI_length (s : ByteArray) : (strI s).length = s.size := by unfold strI; rw [List.length_map]; rfl
theorem strI_wf (s : ByteArray) : ∀ x ∈ strI s, (Lit.int .u8 x).wf = true := by
  intro x hx
  unfold strI at hx
  obtain ⟨b, _, rfl⟩ := List.mem_map.1 hx
  exact WalkArith.wf_u8 (by have := b.toNat_lt; omega)
theorem bytes_of (w : World) (s : ByteArray) (hs : s.size ≤ maxLen) :
    ∃ cap w2, (convert 9 45 (.string s)).run Try.prog w = .ok (.slice (some ⟨w.heap.size, 0, none⟩) s.size cap) w2 ∧ s.size ≤ cap ∧ IntsAt .u8 w2.heap.size w2 (some ⟨w.heap.size, 0, none⟩) w.heap.size 0 s.size (strI s) ∧ Below w.heap.size w w2 := by
  have h := run_bytes_of_string (P := Try.prog) w 9 45 5 s Try.underlying9 Try.underlying45 Try.underlying5
  refine ⟨_, _, h, ?_, ⟨.inr rfl, strI_length s, hs, .inr (by simp), fun i hi => ?_, strI_wf s⟩, (Below.refl _ w).drew.alloc (Nat.le_refl _) _⟩
  · exact grownCap_ge w s.size 0 5
  · have hnew := heap_new (w := w.drew) (.cells (bytesRow s (grownCap w s.size 0 5)) 5 ((bytesRow s (grownCap w s.size 0 5)).size, (bytesRow s (grownCap w s.size 0 5)).size + 1)) (g := w.heap.size) rfl
    refine heap_cell hnew ?_
    rw [Nat.zero_add]
    unfold bytesRow strI
    have hi' : i < s.data.size := hi
    rw [Array.getElem?_append_left (by simpa using hi')]
    simp only [List.getD, List.getElem?_map, Array.getElem?_map, Array.getElem?_toList, Array.getElem?_eq_getElem hi', Option.map_some, Option.getD_some]

/-- What a call has laid in new memory is laid behind. -/
theorem add_new {S : Nat → Prop} {w w1 : World} {W : Nat} {zs xs : List Int} (h : WIs S w W zs) (hS : ∀ k, w.heap.size ≤ k → S k) (hsz : zs.length + xs.length ≤ 1000000) (hB : Below w.heap.size w w1)
    (a : Option Addr) (cap b off : Nat) (hi : IntsAt .u8 w1.heap.size w1 a b off xs.length xs) (hcap : xs.length ≤ cap) (hb : xs.length = 0 ∨ w.heap.size ≤ b) :
    Calls Try.prog 54 #[.pointer (some ⟨W, 0, none⟩), .slice a xs.length cap] w1 (AddPost S w W (zs ++ xs)) := by
  refine (add_any S w1 W zs xs a cap b off (h.stay (Stay.below hB)) hi hcap (hb.imp id (hS b)) (fun k hk => hS k (Nat.le_trans hB.size hk)) hsz).mono ?_
  rintro e w' ⟨he, hw, hg⟩
  exact ⟨he, hw, (grown_below hB _).trans hg⟩
theorem put_wf (n : Nat) (h : n ≤ 18446744073709551615) : ∀ x ∈ putF n, (Lit.int .u8 x).wf = true := fun x hx => WalkArith.wf_u8 (putL_bytes 9 n (by rw [show (128 : Nat) ^ (9 + 1) = 1180591620717411303424 by decide]; omega) x hx)

theorem wcount_any (S : Nat → Prop) (w : World) (W : Nat) (zs : List Int) (n : Int) (m : Nat) (hm : max n 0 = (m : Int)) (hn : n ≤ 9223372036854775807) (hn0 : -9223372036854775808 ≤ n) (h : WIs S w W zs) (hS : ∀ k, w.heap.size ≤ k → S k) (hsz : zs.length ≤ 900000) :
    Calls Try.prog 48 #[.pointer (some ⟨W, 0, none⟩), .int .i64 n] w (AddPost S w W (zs ++ putF m)) := by
  have hm2 : m ≤ 9223372036854775807 := by omega
  have hl := (putL_length 9 m).2
  have HP := Lib.hid (fun W => put_any m W (by omega))
  have HH := Lib.hid h
  have HS := Lib.hid hS
  have HL : Hid ((putF m).length ≤ 10) := hl
  clear h hS hl
  go_enter Try.func48, Try.ntmps48
  go_wp2_with fail
  refine (HP.out _).mono ?_
  rintro e w1 ⟨v, rfl, hg, hB⟩
  obtain ⟨a5, cap5, b5, rfl, hc1, hc2, hb5, HI⟩ := hg.ints rfl (put_wf m (by omega))
  have HA := Lib.hid (add_new HH.out HS.out (by have := HL.out; omega) hB a5 cap5 b5 0 HI hc1 hb5)
  clear hg hb5 HI hc1 hc2 hB
  go_wp2_with fail
  refine HA.out.mono ?_
  rintro e w2 ⟨rfl, hw, hgr⟩
  go_wp2
  go_end0
  exact ⟨rfl, hw, hgr⟩
theorem wtext_any (S : Nat → Prop) (w : World) (W : Nat) (zs : List Int) (s : ByteArray) (hs : s.size ≤ 800) (h : WIs S w W zs) (hS : ∀ k, w.heap.size ≤ k → S k) (hsz : zs.length ≤ 800000) :
    Calls Try.prog 50 #[.pointer (some ⟨W, 0, none⟩), .string s] w (AddPost S w W (zs ++ (putF s.size ++ strI s))) := by
  have HC := Lib.hid (wcount_any S w W zs s.size s.size (by omega) (by omega) (by omega) h hS (by omega))
  have hl : (putF s.size).length ≤ 10 := (putL_length 9 s.size).2
  have HL := Lib.hid hl
  have HS := Lib.hid hS
  clear h hS hl
  go_enter Try.func50, Try.ntmps50
  go_wp2_with fail
  refine HC.out.mono ?_
  rintro e w1 ⟨rfl, hw, hgr⟩
  obtain ⟨cap, w2, hconv, hcap, hI, hB⟩ := bytes_of w1 s (by unfold maxLen; omega)
  have hS1 : ∀ k, w1.heap.size ≤ k → S k := fun k hk => HS.out k (Nat.le_trans hgr.size hk)
  have HA := add_new hw hS1 (xs := strI s) (by have := HL.out; rw [List.length_append, strI_length]; omega) hB (some ⟨w1.heap.size, 0, none⟩) cap w1.heap.size 0 (by rw [strI_length]; exact hI) (by rw [strI_length]; exact hcap) (.inr (Nat.le_refl _))
  rw [strI_length] at HA
  have HA2 := Lib.hid HA
  have HG := Lib.hid hgr
  clear HA hI hB hw hS1 hcap hgr
  go_wp2_with fail
  refine HA2.out.mono ?_
  rintro e w3 ⟨rfl, hw, hgr⟩
  go_wp2
  go_end0
  exact ⟨rfl, by rw [← List.append_assoc]; exact hw, HG.out.trans hgr⟩
theorem wraw_any (S : Nat → Prop) (w : World) (W : Nat) (zs xs : List Int) (B : Nat) (a : Option Addr) (b off cap : Nat) (hi : IntsAt .u8 B w a b off xs.length xs) (h0 : a = none → xs.length = 0 ∧ cap = 0) (hx : xs.length ≤ 60000) (h : WIs S w W zs) (hS : ∀ k, w.heap.size ≤ k → S k) (hsz : zs.length ≤ 900000) :
    Calls Try.prog 28 #[.pointer (some ⟨W, 0, none⟩), .slice a xs.length cap] w (AddPost S w W (zs ++ xs)) := by
  have HC := Lib.hid (clone_any (cap := cap) hi h0 (by omega))
  have HH := Lib.hid h
  have HS := Lib.hid hS
  have HX := Lib.hid hx
  clear h hS hi h0 hx
  go_enter Try.func28, Try.ntmps28
  go_wp2_with fail
  refine HC.out.mono ?_
  rintro e w1 ⟨a5, b5, cap5, rfl, hc5, hI, hlb, hB, -⟩
  have HA := Lib.hid (add_new HH.out HS.out (by have := HX.out; omega) hB a5 cap5 b5 0 hI hc5 hlb)
  clear hI hlb hB hc5
  go_wp2_with fail
  refine HA.out.mono ?_
  rintro e w2 ⟨rfl, hw, hgr⟩
  go_wp2
  go_end0
  exact ⟨rfl, hw, hgr⟩
end Go.Proofs.Ytnkhpmpoemodiaa
