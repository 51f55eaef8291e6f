/- Contracts: are fields few, and short; fields are written. -/
import Derived.Test.YtlnocekiaffbpaaOp
set_option linter.unusedVariables false
namespace Go.Proofs.Ytlnocekiaffbpaa
open Go.RowKit

def OpV.short (o : OpV) : Prop := o.s.size ≤ 60
def fewF (ops : List OpV) : Prop := (∀ o ∈ ops, o.s.size ≤ 60) ∧ ops.length ≤ 40
theorem nth_op {ops : List OpV} {len k : Nat} (hl : ops.length = len) (h : k < len) : ∃ o, ops[k]? = some o ∧ o ∈ ops := ⟨ops[k]'(by omega), List.getElem?_eq_getElem (by omega), List.getElem_mem _⟩
/-- True only where they are. -/
def FewPost (ops : List OpV) (w : World) (e : Ending) (w' : World) : Prop := (e = .returned (.bool true) ∧ fewF ops ∨ e = .returned (.bool false)) ∧ Below w.heap.size w w'
theorem few_any (w : World) (a : Option Addr) (b off len cap : Nat) (ops : List OpV) (h : OpsAt w.heap.size w a b off len ops) (hc : len ≤ cap) :
    Calls Try.prog 14 #[.slice a len cap] w (FewPost ops w) := by
  have hs := h.small
  unfold maxLen at hs
  have H := Lib.hid h
  clear h
  go_enter Try.func14, Try.ntmps14
  go_wp2
  go_loopw [7] (fun i wr => ∃ k : Nat, k ≤ len ∧ i = .int .i64 k ∧ Hid (∀ j o, j < k → ops[j]? = some o → o.s.size ≤ 60) ∧ Below w.heap.size w wr) (fun i _ => len - (intOf i).toNat)
  case atStart => exact ⟨0, Nat.zero_le _, rfl, Lib.hid (fun j o hj => absurd hj (Nat.not_lt_zero _)), Below.refl _ _⟩
  case round =>
    obtain ⟨k, hk, rfl, hsh, hB⟩ := hrel
    by_cases hlt : k < len
    · obtain ⟨o, ho, hmem⟩ := nth_op H.out.length hlt
      have HO := Lib.hid ho
      obtain ⟨c0, c1, c2⟩ := (H.out.kept hB (Nat.le_refl _)).cell k o ho
      have hss := (H.out.ok o hmem).2.2
      unfold maxLen at hss
      have hblk : b < wr.heap.size := by have := H.out.below; have := hB.size; omega
      obtain rfl : a = some ⟨b, off, none⟩ := H.out.addr.resolve_left (by omega)
      clear ho hmem
      obtain ⟨kind, n, s⟩ := o
      simp only at c0 c1 c2 hss
      by_cases h60 : 60 < s.size
      · go_wp2
        go_ret
        exact ⟨.inr rfl, hB.alloc hB.size _⟩
      · go_wp2
        go_roundw
        case rel =>
          refine ⟨k + 1, by omega, by go_num, Lib.hid (fun j o' hj ho' => ?_), hB.alloc hB.size _⟩
          by_cases hjk : j = k
          · subst hjk
            rw [HO.out] at ho'
            cases ho'
            show s.size ≤ 60
            omega
          · exact hsh.out j o' (by omega) ho'
        case measure => simp [intOf]; omega
    · obtain rfl : k = len := by omega
      go_wp2
      go_ret
      refine ⟨?_, hB⟩
      by_cases h40 : k ≤ 40
      · refine .inl ⟨?_, fun o ho => ?_, by rw [H.out.length]; exact h40⟩
        · simp; omega
        · obtain ⟨i, hi, hio⟩ := List.mem_iff_getElem.1 ho
          exact hsh.out i o (by rw [H.out.length] at hi; exact hi) (by rw [List.getElem?_eq_getElem hi, hio])
      · exact .inr (by simp; omega)

theorem OpsAt.grown {w w' : World} {a : Option Addr} {b off len W : Nat} {ops : List OpV} (h : OpsAt w.heap.size w a b off len ops) (hg : w.grownBy w' (some W)) (hW : len = 0 ∨ b ≠ W) : OpsAt w'.heap.size w' a b off len ops := by
  refine ⟨h.addr, h.length, h.small, h.below.imp id (fun g => Nat.lt_of_lt_of_le g hg.size), fun i o hi => ?_, h.ok⟩
  obtain ⟨h1, h2, h3⟩ := h.cell i o hi
  have hi2 : i < ops.length := (List.getElem?_eq_some_iff.1 hi).1
  have hb1 := h.below
  have hl := h.length
  have hlt : b < w.heap.size := by omega
  have hne : some b ≠ some W := fun e => by cases e; omega
  have hk : ∀ i, w'.cell? ⟨b, i, none⟩ = w.cell? ⟨b, i, none⟩ := fun i => World.cell?_of_block (w := w) (hg.block b hlt hne)
  exact ⟨by rw [hk]; exact h1, by rw [hk]; exact h2, by rw [hk]; exact h3⟩
def opB (o : OpV) : List Int :=
  if o.kind = 0 then fixF (o.n % 4294967296) else if o.kind = 1 then putF (max o.n 0).toNat else if o.kind = 2 then putF (foldF o.n).toNat else if o.kind = 3 then putF o.s.size ++ strI o.s else strI o.s
theorem opB_len (o : OpV) (h : o.s.size ≤ 60) : (opB o).length ≤ 70 := by
  have hp : ∀ n, (putF n).length ≤ 10 := fun n => (putL_length 9 n).2
  unfold opB
  split
  · rw [fixF_length]; omega
  split
  · have := hp (max o.n 0).toNat; omega
  split
  · have := hp (foldF o.n).toNat; omega
  split
  · rw [List.length_append, strI_length]; have := hp o.s.size; omega
  · rw [strI_length]; omega
theorem flat_take {α : Type} (f : α → List Int) {l : List α} {k : Nat} {x : α} (h : l[k]? = some x) : (l.take (k + 1)).flatMap f = (l.take k).flatMap f ++ f x := by
  obtain ⟨hk, hx⟩ := List.getElem?_eq_some_iff.1 h
  rw [List.take_succ_eq_append_getElem hk, List.flatMap_append, hx]
  simp
theorem flat_len {α : Type} (f : α → List Int) (m : Nat) : ∀ (l : List α), (∀ x ∈ l, (f x).length ≤ m) → (l.flatMap f).length ≤ m * l.length := by
  intro l
  induction l with
  | nil => intro _; simp
  | cons a l ih =>
    intro h
    have h1 := h a (by simp)
    have h2 := ih (fun x hx => h x (by simp [hx]))
    rw [List.flatMap_cons, List.length_append, List.length_cons, Nat.mul_succ]
    omega
theorem tape_grown_alloc {w w1 w2 : World} {W : Nat} {o : Obj} (h : w.grownBy w1 (some W)) (k : (w1.alloc o).grownBy w2 (some W)) : w.grownBy w2 (some W) := (h.trans (World.grownBy_alloc w1 o _)).trans k
set_option maxHeartbeats 1000000 in
theorem putops_any (S : Nat → Prop) (w : World) (W : Nat) (zs : List Int) (a : Option Addr) (b off len cap : Nat) (ops : List OpV) (hi : OpsAt w.heap.size w a b off len ops) (hc : len ≤ cap) (hf : fewF ops) (hW : len = 0 ∨ b ≠ W)
    (h : WIs S w W zs) (hS : ∀ k, w.heap.size ≤ k → S k) (hsz : zs.length ≤ 100000) :
    Calls Try.prog 37 #[.pointer (some ⟨W, 0, none⟩), .slice a len cap] w (AddPost S w W (zs ++ ops.flatMap opB)) := by
  have hs : len ≤ 40 := by have := hi.length; have := hf.2; omega
  have HH := Lib.hid h
  have H := Lib.hid (And.intro hi hW)
  have HS := Lib.hid hS
  have HFEW := Lib.hid hf
  have HLEN : Hid (∀ k, (zs ++ (ops.take k).flatMap opB).length ≤ 102800) := Lib.hid (fun k => by
    have h1 := flat_len opB 70 (ops.take k) (fun o ho => opB_len o (hf.1 o (List.mem_of_mem_take ho)))
    have h2 : (ops.take k).length ≤ 40 := by rw [List.length_take]; have := hf.2; omega
    rw [List.length_append]; omega)
  clear h hi hS hf hW
  go_enter Try.func37, Try.ntmps37
  go_wp2
  go_loopw [8] (fun i wr => ∃ k : Nat, k ≤ len ∧ i = .int .i64 k ∧ Hid (WIs S wr W (zs ++ (ops.take k).flatMap opB)) ∧ Hid (w.grownBy wr (some W))) (fun i _ => len - (intOf i).toNat)
  case atStart => exact ⟨0, Nat.zero_le _, rfl, Lib.hid (by simpa using HH.out), Lib.hid (grown_refl _ _)⟩
  case round =>
    obtain ⟨k, hk, rfl, hw, hg⟩ := hrel
    by_cases hlt : k < len
    · obtain ⟨o, ho, hmem⟩ := nth_op H.out.1.length hlt
      have HO := Lib.hid ho
      obtain ⟨c0, c1, c2⟩ := (H.out.1.grown hg.out H.out.2).cell k o ho
      have hss := HFEW.out.1 o hmem
      obtain ⟨-, ⟨hn0, hn1⟩, -⟩ := H.out.1.ok o hmem
      have hblk : b < wr.heap.size := by have := H.out.1.below; have := hg.out.size; omega
      obtain rfl : a = some ⟨b, off, none⟩ := H.out.1.addr.resolve_left (by omega)
      clear ho hmem
      obtain ⟨kind, n, s⟩ := o
      simp only at c0 c1 c2 hss hn0 hn1
      have hS1 : ∀ o : Obj, ∀ j, (wr.alloc o).heap.size ≤ j → S j := fun o j hj => HS.out j (by have := hg.out.size; simp at hj; omega)
      have HST : Hid (∀ o : Obj, WIs S (wr.alloc o) W (zs ++ (ops.take k).flatMap opB)) := Lib.hid (fun o => hw.out.stay (Stay.below ((Below.refl _ _).alloc (Nat.le_refl _) _)))
      have HS1 := Lib.hid hS1
      have hll := HLEN.out k
      have HEND : Hid (∀ (o : Obj) (w2 : World) (xs : List Int), opB ⟨kind, n, s⟩ = xs → WIs S w2 W ((zs ++ (ops.take k).flatMap opB) ++ xs) → (wr.alloc o).grownBy w2 (some W) → Hid (WIs S w2 W (zs ++ (ops.take (k + 1)).flatMap opB)) ∧ Hid (w.grownBy w2 (some W))) := Lib.hid (fun o w2 xs e h1 h2 => by
        subst e
        refine ⟨?_, tape_grown_alloc hg.out h2⟩
        show WIs S w2 W _
        rw [flat_take opB HO.out, ← List.append_assoc]; exact h1)
      clear hS1
      by_cases k0 : kind = 0
      · have hb0 : (kind == 0) = true := by simp [k0]
        have HB : Hid (opB ⟨kind, n, s⟩ = fixF (n % 4294967296)) := Lib.hid (by unfold opB; rw [if_pos k0])
        have HC := Lib.hid (fun o : Obj => wfixed_any S (wr.alloc o) W _ (n % 4294967296) (by omega) (by omega) (HST.out o) (HS1.out o) (by omega))
        clear k0 hll
        go_wp2_with fail
        refine (HC.out _).mono ?_
        rintro e w2 ⟨rfl, hw2, hg2⟩
        have HE := HEND.out _ _ _ HB.out hw2 hg2
        clear hw2 hg2
        go_wp2
        go_roundw
        case rel => exact ⟨k + 1, by omega, by go_num, HE.1, HE.2⟩
        case measure => simp [intOf]; omega
      have hb0 : (kind == 0) = false := by simp [k0]
      by_cases k1 : kind = 1
      · have hb1 : (kind == 1) = true := by simp [k1]
        have HB : Hid (opB ⟨kind, n, s⟩ = putF (max n 0).toNat) := Lib.hid (by unfold opB; rw [if_neg k0, if_pos k1])
        have HC := Lib.hid (fun o : Obj => wcount_any S (wr.alloc o) W _ n (max n 0).toNat (by omega) (by omega) (by omega) (HST.out o) (HS1.out o) (by omega))
        clear k0 k1 hll
        go_wp2_with fail
        refine (HC.out _).mono ?_
        rintro e w2 ⟨rfl, hw2, hg2⟩
        have HE := HEND.out _ _ _ HB.out hw2 hg2
        clear hw2 hg2
        go_wp2
        go_roundw
        case rel => exact ⟨k + 1, by omega, by go_num, HE.1, HE.2⟩
        case measure => simp [intOf]; omega
      have hb1 : (kind == 1) = false := by simp [k1]
      by_cases k2 : kind = 2
      · have hb2 : (kind == 2) = true := by simp [k2]
        have HB : Hid (opB ⟨kind, n, s⟩ = putF (foldF n).toNat) := Lib.hid (by unfold opB; rw [if_neg k0, if_neg k1, if_pos k2])
        have HC := Lib.hid (fun o : Obj => wnum_any S (wr.alloc o) W _ n (foldF n).toNat (by have := (fold_bd hn0 hn1).1; omega) (by omega) (by omega) (HST.out o) (HS1.out o) (by omega))
        clear k0 k1 k2 hll
        go_wp2_with fail
        refine (HC.out _).mono ?_
        rintro e w2 ⟨rfl, hw2, hg2⟩
        have HE := HEND.out _ _ _ HB.out hw2 hg2
        clear hw2 hg2
        go_wp2
        go_roundw
        case rel => exact ⟨k + 1, by omega, by go_num, HE.1, HE.2⟩
        case measure => simp [intOf]; omega
      have hb2 : (kind == 2) = false := by simp [k2]
      by_cases k3 : kind = 3
      · have hb3 : (kind == 3) = true := by simp [k3]
        have HB : Hid (opB ⟨kind, n, s⟩ = putF s.size ++ strI s) := Lib.hid (by unfold opB; rw [if_neg k0, if_neg k1, if_neg k2, if_pos k3])
        have HC := Lib.hid (fun o : Obj => wtext_any S (wr.alloc o) W _ s (by omega) (HST.out o) (HS1.out o) (by omega))
        clear k0 k1 k2 k3 hll
        go_wp2_with fail
        refine (HC.out _).mono ?_
        rintro e w2 ⟨rfl, hw2, hg2⟩
        have HE := HEND.out _ _ _ HB.out hw2 hg2
        clear hw2 hg2
        go_wp2
        go_roundw
        case rel => exact ⟨k + 1, by omega, by go_num, HE.1, HE.2⟩
        case measure => simp [intOf]; omega
      have hb3 : (kind == 3) = false := by simp [k3]
      have HB : Hid (opB ⟨kind, n, s⟩ = strI s) := Lib.hid (by unfold opB; rw [if_neg k0, if_neg k1, if_neg k2, if_neg k3])
      obtain ⟨bc, wb, hconv, hbc, hI, hBb⟩ := bytes_of (wr.alloc (.cells #[.int .i64 kind, .int .i64 n, .string s] 30)) s (by unfold maxLen; omega)
      have HW2 := (HST.out (.cells #[.int .i64 kind, .int .i64 n, .string s] 30)).stay (Stay.below hBb)
      have HC := wraw_any S wb W _ (strI s) wb.heap.size (some ⟨(wr.alloc (.cells #[.int .i64 kind, .int .i64 n, .string s] 30)).heap.size, 0, none⟩) (wr.alloc (.cells #[.int .i64 kind, .int .i64 n, .string s] 30)).heap.size 0 bc (by rw [strI_length]; exact hI) (fun h => by cases h) (by rw [strI_length]; omega) HW2 (fun j hj => HS1.out _ j (Nat.le_trans hBb.size hj)) (by omega)
      rw [strI_length, show (wr.alloc (.cells #[.int .i64 kind, .int .i64 n, .string s] 30)).heap.size = wr.heap.size + 1 by simp] at HC
      have HC2 := Lib.hid HC
      have HGB := Lib.hid (grown_below hBb (some W))
      clear k0 k1 k2 k3 hll hI hBb HW2 HC hbc
      go_wp2_with fail
      refine HC2.out.mono ?_
      rintro e w2 ⟨rfl, hw2, hg2⟩
      have HE := HEND.out _ _ _ HB.out hw2 (HGB.out.trans hg2)
      clear hw2 hg2
      go_wp2
      go_roundw
      case rel => exact ⟨k + 1, by omega, by go_num, HE.1, HE.2⟩
      case measure => simp [intOf]; omega
    · obtain rfl : k = len := by omega
      have HT : Hid (ops.take k = ops) := Lib.hid (by rw [List.take_of_length_le (by rw [H.out.1.length]; exact Nat.le_refl _)])
      go_wp2
      go_end0
      exact ⟨rfl, by have := hw.out; rw [HT.out] at this; exact this, hg.out⟩
end Go.Proofs.Ytlnocekiaffbpaa
