/- Contracts of a reader's calls: counts, numbers, texts, bytes, the end, four bytes. -/
import Derived.Test.YtnkhpmpoemodiaaRd
import Derived.Lib.EndianBits
set_option linter.unusedVariables false
namespace Go.Proofs.Ytnkhpmpoemodiaa
open Go.RowKit

def rstep (s : RS) (n : Nat) : RS := ⟨s.pos + n, s.e, s.fa⟩
def IntPost (k : IntKind) (w : World) (R : Nat) (zs : List Int) (s : RS) (n : Int) (e : Ending) (w' : World) : Prop :=
  e = .returned (.int k n) ∧ RIs w' R zs s ∧ w.grownBy w' (some R)
theorem RAt.moved {w : World} {R : Nat} {zs : List Int} {s : RS} {a : Option Addr} {cap b off : Nat} (h : RAt w R zs s a cap b off) (n : Nat) (hle : s.pos + n ≤ zs.length) (v : Int) (hv : v = ((s.pos + n : Nat) : Int)) :
    RIs (w.setCell ⟨R, 1, none⟩ (.int .i64 v)) R zs (rstep s n) := by
  subst hv
  exact ⟨a, cap, b, off, h.turned (grown_set w R 1 _) (heap_set h.box 1 _) hle⟩

theorem rcount_any (w : World) (R : Nat) (zs : List Int) (s : RS) (most : Int) (m : Nat) (hmm : max most 0 = (m : Int)) (hm0 : -9223372036854775808 ≤ most) (hm : most ≤ 9223372036854775807) (h : RIs w R zs s) :
    Calls Try.prog 82 #[.pointer (some ⟨R, 0, none⟩), .int .i64 most] w (IntPost .i64 w R zs (rstep (rbnd zs m s).1 (rbnd zs m s).2.2) (rbnd zs m s).2.1) := by
  have hbd := rbnd_bd m h.bytes.1 h.bytes.2.1 (by omega)
  have hfew := h.bytes.2.2
  have HN := Lib.hid (rbnd_any w R zs s m (by omega) (by omega) h)
  obtain ⟨s1, n, sz, hr⟩ : ∃ s1 n sz, rbnd zs m s = (s1, n, sz) := ⟨_, _, _, rfl⟩
  rw [hr] at HN hbd
  simp only at hbd
  have hn := hbd.2.1
  have hle : s1.pos + sz ≤ zs.length := by rw [hbd.1]; exact hbd.2.2
  have hle2 : s1.pos + sz ≤ 1000000 := by omega
  have HLE := Lib.hid hle
  rw [hr]
  clear hr h hbd hle hfew
  go_enter Try.func82, Try.ntmps82
  go_wp2_with fail
  refine HN.out.mono ?_
  rintro e w1 ⟨rfl, ⟨a, cap, b, off, hr1⟩, hg1⟩
  obtain ⟨c0, c1, c2, c3, f1, f2, f3⟩ := four_cells hr1.box
  have hlt := heap_lt hr1.box
  have HG1 := Lib.hid hg1
  have HR1 := Lib.hid hr1
  clear hg1 hr1
  go_wp2
  go_ret
  exact ⟨rfl, HR1.out.moved sz HLE.out _ (by omega), HG1.out.trans (grown_set _ R 1 _)⟩

def rtext (zs : List Int) (most : Int) (s : RS) : RS × List Int := rtake zs (rbnd zs most s).2.2 (rbnd zs most s).2.1 (rbnd zs most s).1
def TextPost (w : World) (R : Nat) (zs : List Int) (r : RS × List Int) (e : Ending) (w' : World) : Prop :=
  e = .returned (.string (strOfNums r.2)) ∧ RIs w' R zs r.1 ∧ w.grownBy w' (some R)
theorem rtext_any (w : World) (R : Nat) (zs : List Int) (s : RS) (most : Int) (hm0 : -9223372036854775808 ≤ most) (hm : most ≤ 9223372036854775807) (h : RIs w R zs s) :
    Calls Try.prog 83 #[.pointer (some ⟨R, 0, none⟩), .int .i64 most] w (TextPost w R zs (rtext zs most s)) := by
  have hbd := rbnd_bd most h.bytes.1 h.bytes.2.1 hm
  have HN := Lib.hid (rbnd_any w R zs s most hm0 hm h)
  obtain ⟨s1, n, sz, hr⟩ : ∃ s1 n sz, rbnd zs most s = (s1, n, sz) := ⟨_, _, _, rfl⟩
  have HX : Hid (rtext zs most s = rtake zs sz n s1) := Lib.hid (by unfold rtext; rw [hr])
  rw [hr] at HN hbd
  simp only at hbd
  have HT := Lib.hid (fun W (hw : RIs W R zs s1) => rtake_any W R zs s1 sz n hw (by rw [hbd.1]; exact hbd.2.2) hbd.2.1)
  have hn := hbd.2.1
  clear hr h hbd
  rw [HX.out]
  generalize rtake zs sz n s1 = r at *
  clear HX
  go_enter Try.func83, Try.ntmps83
  go_wp2_with fail
  refine HN.out.mono ?_
  rintro e w1 ⟨rfl, hr1, hg1⟩
  have HG1 := Lib.hid hg1
  have HT1 := Lib.hid (HT.out _ hr1)
  clear hg1 hr1
  go_wp2_with fail
  refine HT1.out.mono ?_
  rintro e w2 ⟨a, cap, b, off, rfl, hc, hnil, hI, hap, hr2, hg2⟩
  have hconv := conv_ints hI cap
  have HR2 := Lib.hid hr2
  have HG2 := Lib.hid (HG1.out.trans hg2)
  clear hI hnil hc hap hr2 hg2
  go_wp2
  go_ret
  exact ⟨rfl, HR2.out, HG2.out⟩
/-- New memory holds the bytes. -/
def RawPost (w : World) (R : Nat) (zs : List Int) (r : RS × List Int) (e : Ending) (w' : World) : Prop :=
  ∃ a b cap, e = .returned (.slice a r.2.length cap) ∧ r.2.length ≤ cap ∧ (a = none → r.2.length = 0 ∧ cap = 0) ∧ IntsAt .u8 w'.heap.size w' a b 0 r.2.length r.2 ∧ (r.2.length = 0 ∨ w.heap.size ≤ b) ∧ RIs w' R zs r.1 ∧ w.grownBy w' (some R) ∧ (r.2.length = 0 ∨ ∃ cur, w'.heap[b]? = some (.cells cur 5 (0, 0)))
theorem rtake_few {zs : List Int} (s : RS) (head n : Nat) : (rtake zs head n s).2.length ≤ zs.length := by
  unfold rtake
  split
  · split
    · simp
    · simp only [List.length_take, List.length_drop]; omega
  · simp
theorem rraw_any (w : World) (R : Nat) (zs : List Int) (s : RS) (n : Int) (m : Nat) (hmm : max n 0 = (m : Int)) (hn0 : -9223372036854775808 ≤ n) (hn : n ≤ 9223372036854775807) (hz : zs.length ≤ 60000) (h : RIs w R zs s) :
    Calls Try.prog 69 #[.pointer (some ⟨R, 0, none⟩), .int .i64 n] w (RawPost w R zs (rtake zs 0 m s)) := by
  have HT := Lib.hid (rtake_any w R zs s 0 m h (by simpa using h.bytes.2.1) (by omega))
  have hfew : (rtake zs 0 m s).2.length ≤ 60000 := Nat.le_trans (rtake_few s 0 m) hz
  have HFEW := Lib.hid hfew
  clear h hz hfew
  generalize rtake zs 0 m s = r at *
  go_enter Try.func69, Try.ntmps69
  go_wp2_with fail
  refine HT.out.mono ?_
  rintro e w1 ⟨a, cap, b, off, rfl, hc, hnil, hI, hap, hr1, hg1⟩
  have HC := Lib.hid (clone_any (cap := cap) hI hnil (by have := HFEW.out; omega))
  have HR1 := Lib.hid hr1
  have HG1 := Lib.hid hg1
  clear hI hnil hc hap hr1 hg1
  go_wp2_with fail
  refine HC.out.mono ?_
  rintro e w2 ⟨a5, b5, cap5, rfl, hc5, hI, hlb, hB, hnc, hcel⟩
  have H := Lib.hid (And.intro hI (And.intro hlb (And.intro hB (And.intro hc5 (And.intro hnc hcel)))))
  clear hI hlb hB hc5 hnc hcel
  go_wp2
  go_ret
  obtain ⟨hI, hlb, hB, hc5, hnc, hcel⟩ := H.out
  exact ⟨a5, b5, cap5, rfl, hc5, hnc, hI, hlb.imp id (Nat.le_trans HG1.out.size), HR1.out.stay hB, HG1.out.trans (grown_below hB _), hcel⟩
def rend (zs : List Int) (s : RS) : RS := if s.pos < zs.length then rfail s 22 else s
theorem rend_any (w : World) (R : Nat) (zs : List Int) (s : RS) (h : RIs w R zs s) :
    Calls Try.prog 93 #[.pointer (some ⟨R, 0, none⟩)] w (FailPost w R zs (rend zs s)) := by
  have H0 := Lib.hid h
  have HF : Hid (∀ W, Below w.heap.size w W → Calls Try.prog 103 #[.pointer (some ⟨R, 0, none⟩), .int .i64 22] W (FailPost W R zs (rfail s 22))) := Lib.hid (fun W (hb : Below w.heap.size w W) => rfail_any W R zs s 22 (h.stay hb))
  obtain ⟨a, cap, b, off, h⟩ := h
  obtain ⟨c0, c1, c2, c3, f1, f2, f3⟩ := four_cells h.box
  have hlt := heap_lt h.box
  obtain ⟨len, hlen⟩ : ∃ len, zs.length = len := ⟨_, rfl⟩
  obtain ⟨pos, hpos⟩ : ∃ pos, s.pos = pos := ⟨_, rfl⟩
  have HR : Hid (rend zs s = if pos < len then rfail s 22 else s) := Lib.hid (by unfold rend; rw [hlen, hpos])
  rw [hlen] at c0
  rw [hpos] at c1
  clear h hlen hpos
  by_cases hpl : pos < len
  · have HR2 := HR.out
    rw [if_pos hpl] at HR2
    have HR3 := Lib.hid HR2
    clear HR2 HR
    go_enter Try.func93, Try.ntmps93
    go_wp2
    go_quiet (fail)
    go_wp2_with fail
    refine (HF.out _ (drewN_below w _)).mono ?_
    rintro e w2 ⟨rfl, hr, hg⟩
    go_wp2
    go_end0
    rw [HR3.out]
    exact ⟨rfl, hr, (grown_below (drewN_below w _) _).trans hg⟩
  · have HR2 := HR.out
    rw [if_neg hpl] at HR2
    have HR3 := Lib.hid HR2
    clear HR2 HR
    go_enter Try.func93, Try.ntmps93
    go_wp2
    go_quiet (fail)
    go_wp2
    go_end0
    rw [HR3.out]
    exact ⟨rfl, H0.out.stay (drewN_below w _), grown_below (drewN_below w _) _⟩
end Go.Proofs.Ytnkhpmpoemodiaa
