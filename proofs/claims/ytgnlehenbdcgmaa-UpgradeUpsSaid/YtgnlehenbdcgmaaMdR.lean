/- The walk of ModelMany. -/
import Derived.Test.YtgnlehenbdcgmaaMdQ
import Derived.Laws.MakeOwn
set_option linter.unusedVariables false
set_option linter.unusedSectionVars false
set_option linter.unusedSimpArgs false
namespace Go.Proofs.Ytgnlehenbdcgmaa.Md
open Go.RowKit Go.Shelf

theorem and_1 (n : Int) : bits .and .i64 n 1 = n % 2 := by
  have h511 : (BitVec.ofInt 64 1).toNat = 2 ^ 1 - 1 := by decide
  have key : (BitVec.ofInt 64 n &&& BitVec.ofInt 64 1).toNat = (n % ((2 ^ 64 : Nat) : Int)).toNat % 2 ^ 1 := by
    rw [BitVec.toNat_and, BitVec.toNat_ofInt, h511, Nat.and_two_pow_sub_one_eq_mod]
  show IntKind.i64.wrap ((BitVec.ofInt 64 n &&& BitVec.ofInt 64 1).toNat : Nat) = n % 2
  rw [key, IntKind.wrap_i64]
  omega
theorem and_3 (n : Int) : bits .and .i64 n 3 = n % 4 := by
  have h511 : (BitVec.ofInt 64 3).toNat = 2 ^ 2 - 1 := by decide
  have key : (BitVec.ofInt 64 n &&& BitVec.ofInt 64 3).toNat = (n % ((2 ^ 64 : Nat) : Int)).toNat % 2 ^ 2 := by
    rw [BitVec.toNat_and, BitVec.toNat_ofInt, h511, Nat.and_two_pow_sub_one_eq_mod]
  show IntKind.i64.wrap ((BitVec.ofInt 64 n &&& BitVec.ofInt 64 3).toNat : Nat) = n % 4
  rw [key, IntKind.wrap_i64]
  omega
/-- A row that was made. -/
theorem rows_made {α : Type} {enc : α → List Value} {fit : α → Prop} {sz : Nat} {x : α} {z : Array Value} (hz : z.toList = enc x) (hsz : z.size = sz) {W : World} {b n : Nat} {t : TypeId} (h : W.heap[b]? = some (.cells (madeCells z (n * sz)) t (0, 0))) (hn : n ≤ maxLen) (hf : fit x) {L : List α} (hL : L = List.replicate n x) {len : Nat} (hl : n = len) :
    RowsAt enc fit sz W.heap.size W (some ⟨b, 0, none⟩) b 0 len L := by
  subst hL
  subst hl
  refine ⟨.inr rfl, List.length_replicate .., hn, .inr (heap_lt h), fun i y hi j u hu => ?_, fun y hy => ?_⟩
  · rw [List.getElem?_replicate] at hi
    split at hi
    · rename_i hin
      cases hi
      rw [← hz, Array.getElem?_toList] at hu
      have hj : j < sz := by rw [← hsz]; exact (Array.getElem?_eq_some_iff.1 hu).1
      rw [Nat.zero_add]
      refine heap_cell h ?_
      have h1 : i * sz + j < n * sz := by
        have := Nat.mul_le_mul_right sz (show i + 1 ≤ n from hin)
        rw [Nat.add_mul] at this
        omega
      have h2 : (i * sz + j) % z.size = j := by rw [hsz, Nat.mul_comm, Nat.mul_add_mod, Nat.mod_eq_of_lt hj]
      obtain ⟨h3, h4⟩ := Array.getElem?_eq_some_iff.1 hu
      simp [madeCells, h1, h2, h3, h4]
    · cases hi
  · rw [List.eq_of_mem_replicate hy]
    exact hf
def zP : Array Value := #[.string ⟨#[]⟩, .int .i64 0, .slice none 0 0, .slice none 0 0]
def zL : Array Value := #[.string ⟨#[]⟩, .string ⟨#[]⟩, .string ⟨#[]⟩, .int .i64 0, .int .i64 0]
def zE : Array Value := #[.string ⟨#[]⟩, .int .i64 0, .int .i64 0]
def zV : Array Value := #[.string ⟨#[]⟩, .int .i64 0]
theorem Try.infoP : (Try.prog.info? 36).map (fun i => (i.zero, i.size, i.bytes)) = some (some (.agg zP), 4, 72) := by kernel_rfl
theorem Try.infoL : (Try.prog.info? 57).map (fun i => (i.zero, i.size, i.bytes)) = some (some (.agg zL), 5, 64) := by kernel_rfl
theorem Try.infoE : (Try.prog.info? 60).map (fun i => (i.zero, i.size, i.bytes)) = some (some (.agg zE), 3, 32) := by kernel_rfl
theorem Try.infoV : (Try.prog.info? 80).map (fun i => (i.zero, i.size, i.bytes)) = some (some (.agg zV), 2, 24) := by kernel_rfl
theorem madeP (w : World) (n : Nat) (hn : n ≤ 20000) :
    (Instr.makeSlice 22 (.int .i64 (n : Int)) (.int .i64 (n : Int))).run Try.prog w = .ok (.slice (some ⟨w.heap.size, 0, none⟩) n n) (w.alloc (.cells (madeCells zP (n * 4)) 36)) := by
  obtain ⟨i0, hi, hz0, hz1, hz2⟩ := info_parts Try.infoP
  have h := run_make (P := Try.prog) w 22 36 i0 _ Try.underlying22 hi hz0 .i64 .i64 n n (by omega) (Int.le_refl _) (by rw [hz2]; omega) (by omega)
  rw [hz1, show (Value.agg zP).cells = zP from rfl] at h
  simpa using h
theorem madeL (w : World) (n : Nat) (hn : n ≤ 20000) :
    (Instr.makeSlice 23 (.int .i64 (n : Int)) (.int .i64 (n : Int))).run Try.prog w = .ok (.slice (some ⟨w.heap.size, 0, none⟩) n n) (w.alloc (.cells (madeCells zL (n * 5)) 57)) := by
  obtain ⟨i0, hi, hz0, hz1, hz2⟩ := info_parts Try.infoL
  have h := run_make (P := Try.prog) w 23 57 i0 _ Try.underlying23 hi hz0 .i64 .i64 n n (by omega) (Int.le_refl _) (by rw [hz2]; omega) (by omega)
  rw [hz1, show (Value.agg zL).cells = zL from rfl] at h
  simpa using h
theorem madeE (w : World) (n : Nat) (hn : n ≤ 20000) :
    (Instr.makeSlice 24 (.int .i64 (n : Int)) (.int .i64 (n : Int))).run Try.prog w = .ok (.slice (some ⟨w.heap.size, 0, none⟩) n n) (w.alloc (.cells (madeCells zE (n * 3)) 60)) := by
  obtain ⟨i0, hi, hz0, hz1, hz2⟩ := info_parts Try.infoE
  have h := run_make (P := Try.prog) w 24 60 i0 _ Try.underlying24 hi hz0 .i64 .i64 n n (by omega) (Int.le_refl _) (by rw [hz2]; omega) (by omega)
  rw [hz1, show (Value.agg zE).cells = zE from rfl] at h
  simpa using h
theorem madeV (w : World) (n : Nat) (hn : n ≤ 20000) :
    (Instr.makeSlice 33 (.int .i64 (n : Int)) (.int .i64 (n : Int))).run Try.prog w = .ok (.slice (some ⟨w.heap.size, 0, none⟩) n n) (w.alloc (.cells (madeCells zV (n * 2)) 80)) := by
  obtain ⟨i0, hi, hz0, hz1, hz2⟩ := info_parts Try.infoV
  have h := run_make (P := Try.prog) w 33 80 i0 _ Try.underlying33 hi hz0 .i64 .i64 n n (by omega) (Int.le_refl _) (by rw [hz2]; omega) (by omega)
  rw [hz1, show (Value.agg zV).cells = zV from rfl] at h
  simpa using h
def oP : ProcV := ⟨⟨⟨#[]⟩, 0, [], []⟩, none, 0, 0, 0, none, 0, 0, 0⟩
def oL : LinkM := ⟨⟨#[]⟩, ⟨#[]⟩, ⟨#[]⟩, 0, 0⟩
def oE : EventM := ⟨⟨#[]⟩, 0, 0⟩
def oV : VarM := ⟨⟨#[]⟩, 0⟩
theorem chk_empty : Ic.chkE ⟨#[]⟩ = 40 := by kernel_rfl
theorem nm_empty (f : ByteArray → Option Nat) (k : Nat) : nmE f ⟨#[]⟩ k = 40 := by unfold nmE; rw [chk_empty]; rfl
theorem fErr_many {α : Type} (E : Nat → α → Int) (n : Nat) (x : α) (hn : 0 < n) (h : E 0 x ≠ 0) : fErr E 0 (List.replicate n x) = (E 0 x, 1) := by
  obtain ⟨m, rfl⟩ : ∃ m, n = m + 1 := ⟨n - 1, by omega⟩
  rw [List.replicate_succ]
  unfold fErr
  rw [if_pos h]
def ansB (o : Nat) (p : Int × Int) (b : Int) : Prop := if o = 1 then p = (3, b) else p.1 ≠ 3 ∧ (b = 1 → p.2 = 1)
theorem prE_o (ver : Int) (links : List LinkM) (f : ByteArray → Option Nat) (k : Nat) : prE ver links f k oP.p = 40 := by
  unfold prE
  rw [show oP.p.name = ⟨#[]⟩ from rfl, nm_empty, if_pos (by decide)]
theorem lnE_o (ver : Int) (f g : ByteArray → Option Nat) (k : Nat) : lnE ver f g k oL = 40 := by
  unfold lnE
  rw [show oL.name = ⟨#[]⟩ from rfl, nm_empty, if_pos (by decide)]
theorem varE_o (f : ByteArray → Option Nat) (k : Nat) : varE f k oV = 40 := by
  unfold varE
  rw [show oV.name = ⟨#[]⟩ from rfl, nm_empty, show ((⟨#[]⟩ : ByteArray).toList == [118, 97, 108, 117, 101]) = false by kernel_rfl, if_neg (by decide), if_pos (by decide)]
theorem ver3 : ¬ (!(decide ((1 : Int) ≤ 3) && decide ((3 : Int) ≤ 3))) = true := by decide
theorem many0 (n o : Nat) (ho : o ≤ 1) (hn : n = 4096 + o) : ansB o (mdE ⟨3, List.replicate n oP.p, [], []⟩) 0 := by
  unfold ansB mdE
  dsimp only
  rw [if_neg ver3, List.length_replicate]
  rcases (show o = 0 ∨ o = 1 by omega) with rfl | rfl
  · have h2 : erP ⟨3, List.replicate n oP.p, [], []⟩ = (40, 1) := by
      unfold erP
      dsimp only
      rw [fErr_many _ n _ (by omega) (by rw [prE_o]; decide), prE_o]
      rfl
    rw [h2, if_neg (by decide), if_neg (by simp; omega)]
    exact ⟨by show (40 : Int) ≠ 3; decide, fun h => absurd h (by decide)⟩
  · rw [if_pos rfl, if_pos (by simp; omega)]
theorem many1 (n o : Nat) (ho : o ≤ 1) (hn : n = 16384 + o) : ansB o (mdE ⟨3, [], List.replicate n oL, []⟩) 0 := by
  unfold ansB mdE
  dsimp only
  rw [if_neg ver3, List.length_replicate]
  rcases (show o = 0 ∨ o = 1 by omega) with rfl | rfl
  · have h2 : erL ⟨3, [], List.replicate n oL, []⟩ = (40, 1) := by
      unfold erL
      dsimp only
      rw [fErr_many _ n _ (by omega) (by rw [lnE_o]; decide), lnE_o]
      rfl
    rw [h2, show erP ⟨3, [], List.replicate n oL, []⟩ = (0, 0) from rfl, if_neg (by decide), if_neg (by simp; omega)]
    exact ⟨by show (40 : Int) ≠ 3; decide, fun h => absurd h (by decide)⟩
  · rw [if_pos rfl, if_pos (by simp; omega)]
theorem many2 (n o : Nat) (ho : o ≤ 1) (hn : n = 16384 + o) : ansB o (mdE ⟨3, [], [], List.replicate n oE⟩) 0 := by
  unfold ansB mdE
  dsimp only
  rw [if_neg ver3, List.length_replicate]
  rcases (show o = 0 ∨ o = 1 by omega) with rfl | rfl
  · have h2 : erE ⟨3, [], [], List.replicate n oE⟩ = (4, 1) := by
      unfold erE
      dsimp only
      have h3 : evE (fstP (nmsP ⟨3, [], [], List.replicate n oE⟩)) oE = 4 := rfl
      rw [fErr_many _ n _ (by omega) (by rw [h3]; decide), h3]
      rfl
    rw [h2, show erP ⟨3, [], [], List.replicate n oE⟩ = (0, 0) from rfl, show erL ⟨3, [], [], List.replicate n oE⟩ = (0, 0) from rfl, if_neg (by decide), if_neg (by simp; omega)]
    exact ⟨by show (4 : Int) ≠ 3; decide, fun h => absurd h (by decide)⟩
  · rw [if_pos rfl, if_pos (by simp; omega)]
theorem many3 (n o : Nat) (ho : o ≤ 1) (hn : n = 64 + o) : ansB o (mdE ⟨3, [⟨smA, 1, List.replicate n oV, []⟩], [], []⟩) 1 := by
  unfold ansB mdE
  dsimp only
  rw [if_neg ver3, if_neg (show ¬ (decide (4096 < [(⟨smA, 1, List.replicate n oV, []⟩ : ProcM)].length) || (decide (16384 < ([] : List LinkM).length) || decide (16384 < ([] : List EventM).length))) = true from by simp)]
  have h1 : prE 3 [] (fstP [smA]) 0 ⟨smA, 1, List.replicate n oV, []⟩ = if o = 1 then 3 else 40 := by
    unfold prE
    dsimp only
    rw [show nmE (fstP [smA]) smA 0 = 0 by kernel_rfl, if_neg (by decide), if_pos (by decide), List.length_replicate, List.length_nil]
    rcases (show o = 0 ∨ o = 1 by omega) with rfl | rfl
    · rw [if_neg (by simp; omega), if_neg (by decide)]
      unfold inE
      dsimp only
      rw [fErr_many _ n _ (by omega) (by rw [varE_o]; decide), varE_o, if_neg (by decide)]
    · rw [if_pos (by simp; omega), if_pos rfl]
  have h2 : erP ⟨3, [⟨smA, 1, List.replicate n oV, []⟩], [], []⟩ = (if o = 1 then 3 else 40, 1) := by
    unfold erP
    dsimp only
    rw [show nmsP ⟨3, [⟨smA, 1, List.replicate n oV, []⟩], [], []⟩ = [smA] from rfl]
    unfold fErr
    rw [h1]
    rcases (show o = 0 ∨ o = 1 by omega) with rfl | rfl <;> rfl
  rw [h2]
  rcases (show o = 0 ∨ o = 1 by omega) with rfl | rfl
  · rw [if_neg (by decide)]
    exact ⟨by show (40 : Int) ≠ 3; decide, fun _ => rfl⟩
  · rw [if_pos rfl]
    rfl
end Go.Proofs.Ytgnlehenbdcgmaa.Md
