/- Plain: a name, and with letters behind it. -/
import Derived.Test.YtmilchkemobchaaDoorNq
import Derived.Laws.Runes
set_option linter.unusedVariables false
set_option linter.unusedSectionVars false
namespace Go.Proofs.YtmilchkemobchaaDoor
open Go.RowKit Go.WideShapes Go

theorem enc_facts : ∀ c : Fin 26, (Utf8.encode (97 + (c.val : Int))).size = 1 ∧ byS (Utf8.encode (97 + (c.val : Int))) 0 = 97 + (c.val : Int) := by decide +kernel
def cz (n : Int) : ByteArray := Utf8.encode (97 + n % 26)
theorem cz_facts (n : Int) : (cz n).size = 1 ∧ byS (cz n) 0 = 97 + n % 26 := by
  have h := enc_facts ⟨(n % 26).toNat, by omega⟩
  have e : (((n % 26).toNat : Nat) : Int) = n % 26 := by omega
  simp only [e] at h
  exact h
/-- s with so many letters behind it. -/
def sufB (s : ByteArray) (zs : List Int) : Nat → ByteArray
  | 0 => s
  | k + 1 => sufB s zs k ++ cz (zs.getD k 0)
theorem sufB_size (s : ByteArray) (zs : List Int) : ∀ k, (sufB s zs k).size = s.size + k
  | 0 => rfl
  | k + 1 => by
    show (sufB s zs k ++ cz (zs.getD k 0)).size = _
    rw [size_append, sufB_size s zs k, (cz_facts _).1]; omega
theorem sufB_bytes {s : ByteArray} {zs : List Int} (hs : nameB s = true) : ∀ k, letB (byS (sufB s zs k) 0) = true ∧ ∀ i, i < s.size + k → okB (byS (sufB s zs k) i) = true
  | 0 => by
    obtain ⟨k1, k2, k3, k4⟩ := chk_size hs
    exact ⟨k3, fun i hi => okTo_iff.1 k4 i (by simpa using hi)⟩
  | k + 1 => by
    obtain ⟨h1, h2⟩ := sufB_bytes hs k
    obtain ⟨k1, k2, k3, k4⟩ := chk_size hs
    have hz := sufB_size s zs k
    have hb : ∀ i, byS (sufB s zs (k + 1)) i = if i < s.size + k then byS (sufB s zs k) i else byS (cz (zs.getD k 0)) (i - (s.size + k)) := fun i => by
      show byS (sufB s zs k ++ cz (zs.getD k 0)) i = _
      rw [byS_append, hz]
    refine ⟨by rw [hb 0, if_pos (by omega)]; exact h1, fun i hi => ?_⟩
    rw [hb i]
    by_cases h3 : i < s.size + k
    · rw [if_pos h3]; exact h2 i h3
    · rw [if_neg h3, show i - (s.size + k) = 0 by omega, (cz_facts _).2]
      have : letB (97 + zs.getD k 0 % 26) = true := by unfold letB; simp; omega
      unfold okB; rw [this]; rfl
theorem sufB_name {s : ByteArray} {zs : List Int} (hs : nameB s = true) (k : Nat) : nameB (sufB s zs k) = decide (s.size + k ≤ 64) := by
  obtain ⟨h1, h2⟩ := sufB_bytes (zs := zs) hs k
  obtain ⟨k1, k2, k3, k4⟩ := chk_size hs
  have hz := sufB_size s zs k
  by_cases h : s.size + k ≤ 64
  · rw [decide_eq_true h]
    exact chk_good (by omega) (by omega) h1 (okTo_iff.2 fun i hi => h2 i (by omega))
  · rw [decide_eq_false h]
    refine Bool.eq_false_iff.2 fun h3 => ?_
    have := (chk_size h3).2.1
    omega
theorem lt_more : ∀ (l m : List UInt8), m ≠ [] → l < l ++ m
  | [], m, h => by
    cases m with
    | nil => exact absurd rfl h
    | cons x t => exact List.nil_lt_cons x t
  | x :: l, m, h => List.cons_lt_cons_iff.2 (.inr ⟨rfl, lt_more l m h⟩)
theorem toList_append (a b : ByteArray) : (a ++ b).toList = a.toList ++ b.toList := by simp [ByteArray.toList_eq, ByteArray.data_append]
theorem suf_lt (s : ByteArray) (zs : List Int) (k : Nat) : ltB (sufB s zs k) (sufB s zs (k + 1)) = true ∧ ltB (sufB s zs (k + 1)) (sufB s zs k) = false := by
  have h : (sufB s zs k).toList < (sufB s zs (k + 1)).toList := by
    show _ < (sufB s zs k ++ cz (zs.getD k 0)).toList
    rw [toList_append]
    refine lt_more _ _ (fun e => ?_)
    have h1 := (cz_facts (zs.getD k 0)).1
    have h2 : (cz (zs.getD k 0)).toList.length = (cz (zs.getD k 0)).size := by simp [ByteArray.toList_eq]
    rw [e, h1] at h2; cases h2
  rw [ltB_eq, ltB_eq]
  exact ⟨decide_eq_true h, decide_eq_false (fun h2 => List.lt_irrefl _ (List.lt_trans h h2))⟩
/-- The first n of them. -/
def sufL (s : ByteArray) (zs : List Int) (n : Nat) : List ByteArray := (List.range n).map (sufB s zs)
theorem sufL_succ (s : ByteArray) (zs : List Int) (n : Nat) : sufL s zs (n + 1) = sufL s zs n ++ [sufB s zs n] := by simp [sufL, List.range_succ]
theorem sufL_length (s : ByteArray) (zs : List Int) (n : Nat) : (sufL s zs n).length = n := by simp [sufL]
theorem sufL_at (s : ByteArray) (zs : List Int) {n i : Nat} (h : i < n) : atS (sufL s zs n) i = sufB s zs i := by simp [atS, sufL, List.getD, h]
theorem sufL_nodup (s : ByteArray) (zs : List Int) (n : Nat) : (sufL s zs n).Nodup := by
  refine List.pairwise_iff_getElem.2 fun i j h1 h2 h3 => ?_
  simp only [sufL, List.getElem_map, List.getElem_range]
  intro e
  have := congrArg ByteArray.size e
  rw [sufB_size, sufB_size] at this; omega
theorem sufL_sorted (s : ByteArray) (zs : List Int) (n : Nat) : sortedB (sufL s zs n) = true := by
  unfold sortedB
  rw [srtTo_iff, sufL_length]
  intro i hi
  rw [sufL_at s zs (show i < n by omega), sufL_at s zs hi]
  exact (suf_lt s zs i).1
/-- A row from its end on. -/
def bkL (L : List ByteArray) : Nat → List ByteArray
  | 0 => []
  | j + 1 => bkL L j ++ [atS L (L.length - 1 - j)]
theorem bkL_length (L : List ByteArray) : ∀ j, (bkL L j).length = j
  | 0 => rfl
  | j + 1 => by simp [bkL, bkL_length L j]
theorem bkL_at (L : List ByteArray) : ∀ {j i : Nat}, i < j → atS (bkL L j) i = atS L (L.length - 1 - i)
  | j + 1, i, h => by
    have hl := bkL_length L j
    by_cases e : i < j
    · have := bkL_at L e
      simp only [atS, bkL, List.getD] at this ⊢
      rw [List.getElem?_append_left (by omega)]
      exact this
    · obtain rfl : i = j := by omega
      simp only [atS, bkL, List.getD]
      rw [List.getElem?_append_right (by omega), hl]; simp
theorem bkL_mem {L : List ByteArray} {j : Nat} (hj : j ≤ L.length) {x : ByteArray} (h : x ∈ bkL L j) : x ∈ L := by
  obtain ⟨i, hi, rfl⟩ := mem_atS.1 h
  rw [bkL_length] at hi
  rw [bkL_at L hi]
  exact mem_atS.2 ⟨L.length - 1 - i, by omega, rfl⟩
theorem bk_sorted (s : ByteArray) (zs : List Int) (n : Nat) : sortedB (bkL (sufL s zs n) n) = decide (n < 2) := by
  by_cases h : n < 2
  · rw [decide_eq_true h]
    unfold sortedB
    rw [srtTo_iff, bkL_length]
    intro i hi; omega
  · rw [decide_eq_false h]
    refine sorted_no (k := 0) (by rw [bkL_length]; omega) ?_
    rw [bkL_at _ (show 0 < n by omega), bkL_at _ (show 0 + 1 < n by omega), sufL_length, sufL_at s zs (show n - 1 - 0 < n by omega), sufL_at s zs (show n - 1 - (0 + 1) < n by omega)]
    have := (suf_lt s zs (n - 2)).2
    rw [show n - 2 + 1 = n - 1 by omega] at this
    exact this
theorem twice_len (s : ByteArray) (zs : List Int) (n : Nat) (hn : n ≤ 100) : (takeM (distD (sufL s zs n ++ bkL (sufL s zs n) n)) 1000).length = n := by
  have hl := sufL_length s zs n
  letI : BEq ByteArray := instBEqOfDecidableEq
  have h1 : (distD (sufL s zs n ++ bkL (sufL s zs n) n)).length ≤ (sufL s zs n).length := nodup_le (distL_nodup _ _) (fun x hx => by
    rcases List.mem_append.1 (mem_distD.1 hx) with h | h
    · exact h
    · exact bkL_mem (by omega) h)
  have h2 : (sufL s zs n).length ≤ (distD (sufL s zs n ++ bkL (sufL s zs n) n)).length := nodup_le (sufL_nodup s zs n) (fun x hx => mem_distD.2 (List.mem_append.2 (.inl hx)))
  unfold takeM
  rw [if_pos (by decide), List.length_take, show (1000 : Int).toNat = 1000 from rfl]
  omega
theorem check_A {s : ByteArray} : chkE (s ++ ⟨#[65]⟩) = 40 := by
  refine chk_no (chk_bad (k := s.size) (by rw [size_append]; show _ < _ + 1; omega) ?_)
  rw [byS_append, if_neg (by omega), Nat.sub_self]
  decide +kernel
theorem find_first (s : ByteArray) (zs : List Int) {n : Nat} (hn : 0 < n) : findI (sufL s zs n) s = 0 :=
  find_hit (j := 0) (by rw [sufL_length]; exact hn) (fun i hi => by omega) (sufL_at s zs hn)
end Go.Proofs.YtmilchkemobchaaDoor
