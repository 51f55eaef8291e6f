/- Plain: fields that are written are read as they were; with bytes less there is a fault. -/
import Derived.Test.YtlnocekiaffbpaaOp
set_option linter.unusedVariables false
namespace Go.Proofs.Ytlnocekiaffbpaa
open Go.RowKit

theorem get_cut (f : Nat) : ∀ (n i a d : Nat), i + f ≤ 9 → d < (putL f n).length → getGo ((putL f n).take d) i a = (0, 0, 20) := by
  induction f with
  | zero =>
    intro n i a d hi hd
    simp only [putL, List.length_cons, List.length_nil] at hd
    obtain rfl : d = 0 := by omega
    rfl
  | succ f ih =>
    intro n i a d hi hd
    simp only [putL] at hd ⊢
    split
    · rename_i h
      rw [if_pos h] at hd
      simp only [List.length_cons, List.length_nil] at hd
      obtain rfl : d = 0 := by omega
      rfl
    · rename_i h
      rw [if_neg h] at hd
      cases d with
      | zero => rfl
      | succ d =>
        simp only [List.length_cons] at hd
        rw [List.take_succ_cons]
        simp only [getGo]
        rw [if_neg (by omega), if_neg (by omega)]
        exact ih _ _ _ _ (by omega) (by omega)
theorem get_cutF (n d : Nat) (h : d < (putF n).length) : getF ((putF n).take d) = (0, 0, 20) := get_cut 9 n 0 0 d (by omega) h

/-! ### one field, whole and cut -/
theorem drop_front {α : Type} (front l : List α) : (front ++ l).drop front.length = l := by simp
def s0 (n : Nat) : RS := ⟨n, 0, 0⟩
theorem take_good (front xs back : List Int) : rtake (front ++ (xs ++ back)) 0 xs.length (s0 front.length) = (s0 (front.length + xs.length), xs) := by
  unfold rtake s0
  rw [if_pos rfl, if_neg (by simp only [List.length_append]; omega)]
  simp only [Nat.add_zero]
  rw [drop_front, List.take_left]
theorem take_cut (front xs : List Int) (n : Nat) (h : xs.length < n) : rtake (front ++ xs) 0 n (s0 front.length) = (⟨front.length, 20, front.length⟩, []) := by
  unfold rtake s0
  rw [if_pos rfl, if_pos (by simp only [List.length_append]; omega)]
  rfl
theorem word_fix (n : Int) (h0 : 0 ≤ n) (h1 : n ≤ 4294967295) : wordK (fixF n) 4 = n := by
  simp only [wordK, fixF, List.getD_cons_zero, List.getD_cons_succ]
  omega
theorem fixed_good (front back : List Int) (n : Int) (h0 : 0 ≤ n) (h1 : n ≤ 4294967295) : rfixed (front ++ (fixF n ++ back)) (s0 front.length) = (s0 (front.length + 4), n) := by
  have := take_good front (fixF n) back
  rw [fixF_length] at this
  unfold rfixed
  rw [this]
  simp only
  rw [if_neg (by rw [fixF_length]; decide), word_fix n h0 h1]
theorem fixed_cut (front xs : List Int) (h : xs.length < 4) : (rfixed (front ++ xs) (s0 front.length)).1 = ⟨front.length, 20, front.length⟩ := by
  unfold rfixed
  rw [take_cut front xs 4 h]
theorem num_good (front back : List Int) (n : Nat) (h : n ≤ 18446744073709551615) : rnum (front ++ (putF n ++ back)) (s0 front.length) = (s0 front.length, n, (putF n).length) := by
  unfold rnum s0
  simp only [drop_front, get_putF n back h]
  rfl
theorem num_cut (front : List Int) (n d : Nat) (h : d < (putF n).length) : rnum (front ++ (putF n).take d) (s0 front.length) = (⟨front.length, 20, front.length⟩, 0, 0) := by
  unfold rnum s0
  simp only [drop_front, get_cutF n d h]
  rfl
theorem bnd_good (front back : List Int) (n : Nat) (most : Int) (h : (n : Int) ≤ most) (hm : most ≤ 9223372036854775807) : rbnd (front ++ (putF n ++ back)) most (s0 front.length) = (s0 front.length, n, (putF n).length) := by
  unfold rbnd
  rw [num_good front back n (by omega), if_neg (by simp only; omega)]
theorem bnd_cut (front : List Int) (n d : Nat) (most : Int) (h : d < (putF n).length) (hm : 0 ≤ most) : rbnd (front ++ (putF n).take d) most (s0 front.length) = (⟨front.length, 20, front.length⟩, 0, 0) := by
  unfold rbnd
  rw [num_cut front n d h, if_neg (by simp only; omega)]
theorem rstep0 (s : RS) : rstep s 0 = s := rfl

/-! ### a field of either kind -/
def opC (o : OpV) : List Int :=
  if o.kind = 0 then fixF (o.n % 4294967296) else if o.kind = 1 then putF (o.n % 65536).toNat else if o.kind = 2 then putF (foldF o.n).toNat else putF o.s.size ++ strI o.s
/-- A field is read: the state, and whether it is as it was. -/
def rdOp (zs : List Int) (o : OpV) (s : RS) : RS × Bool :=
  if o.kind = 0 then ((rfixed zs s).1, decide ((rfixed zs s).2 = o.n % 4294967296))
  else if o.kind = 1 then (rstep (rbnd zs 65535 s).1 (rbnd zs 65535 s).2.2, decide (((rbnd zs 65535 s).2.1 : Int) = o.n % 65536))
  else if o.kind = 2 then (rstep (rnum zs s).1 (rnum zs s).2.2, decide (unfoldF (rnum zs s).2.1 = o.n))
  else ((rtext zs 60 s).1, decide (strOfNums (rtext zs 60 s).2 = o.s))
def rdAll (zs : List Int) : List OpV → RS → RS × Bool
  | [], s => (s, true)
  | o :: os, s => if (rdOp zs o s).2 = true ∧ (rdOp zs o s).1.e = 0 then rdAll zs os (rdOp zs o s).1 else ((rdOp zs o s).1, false)
theorem nums_str (s : ByteArray) : strOfNums (strI s) = s := by
  unfold strOfNums strI
  rw [List.map_map]
  have : (fun n => UInt8.ofNat n.toNat) ∘ (fun b : UInt8 => (b.toNat : Int)) = id := by
    funext b; simp
  rw [this, List.map_id]
theorem op_good (front back : List Int) (o : OpV) (ho : o.ok) (hs : o.s.size ≤ 60) : rdOp (front ++ (opC o ++ back)) o (s0 front.length) = (s0 (front.length + (opC o).length), true) := by
  obtain ⟨_, ⟨n0, n1⟩, _⟩ := ho
  unfold rdOp opC
  split
  · rw [fixed_good front back _ (by omega) (by omega), fixF_length]
    simp
  split
  · rw [bnd_good front back _ 65535 (by omega) (by omega)]
    simp only [rstep, s0]
    rw [decide_eq_true (by omega)]
  split
  · have h1 := fold_bd n0 n1
    rw [num_good front back _ (by omega)]
    simp only [rstep, s0]
    rw [decide_eq_true (by rw [Int.toNat_of_nonneg h1.1, unfold_fold])]
  · rw [List.append_assoc]
    unfold rtext
    rw [bnd_good front _ _ 60 (by omega) (by omega)]
    simp only
    have h2 : rtake (front ++ (putF o.s.size ++ (strI o.s ++ back))) (putF o.s.size).length o.s.size (s0 front.length) = (s0 (front.length + (putF o.s.size ++ strI o.s).length), strI o.s) := by
      unfold rtake s0
      rw [if_pos rfl, if_neg (by simp only [List.length_append, strI_length]; omega)]
      simp only [List.length_append, strI_length]
      rw [← List.append_assoc front, show front.length + (putF o.s.size).length = (front ++ putF o.s.size).length by rw [List.length_append], drop_front, show o.s.size = (strI o.s).length from (strI_length o.s).symm, List.take_left, List.length_append]
      rw [Nat.add_assoc]
    rw [h2]
    simp only
    rw [decide_eq_true (nums_str o.s)]
theorem op_cut (front : List Int) (o : OpV) (hs : o.s.size ≤ 60) (d : Nat) (hd : d < (opC o).length) : (rdOp (front ++ (opC o).take d) o (s0 front.length)).1.e = 20 := by
  unfold rdOp
  unfold opC at hd ⊢
  split
  · rename_i h
    rw [if_pos h] at hd
    rw [fixF_length] at hd
    simp only
    rw [fixed_cut front _ (by rw [List.length_take, fixF_length]; omega)]
  rename_i h0
  rw [if_neg h0] at hd
  split
  · rename_i h
    rw [if_pos h] at hd
    simp only
    rw [bnd_cut front _ d 65535 hd (by decide)]
    rfl
  rename_i h1
  rw [if_neg h1] at hd
  split
  · rename_i h
    rw [if_pos h] at hd
    simp only
    rw [num_cut front _ d hd]
    rfl
  · rename_i h2
    rw [if_neg h2] at hd
    simp only
    unfold rtext
    by_cases hp : d < (putF o.s.size).length
    · rw [List.take_append_of_le_length (by omega), bnd_cut front _ d 60 hp (by decide)]
      rfl
    · have e : (putF o.s.size ++ strI o.s).take d = putF o.s.size ++ (strI o.s).take (d - (putF o.s.size).length) := by
        rw [List.take_append, List.take_of_length_le (by omega)]
      rw [List.length_append, strI_length] at hd
      rw [e, bnd_good front _ _ 60 (by omega) (by omega)]
      simp only
      unfold rtake s0
      rw [if_pos rfl, if_pos (by simp only [List.length_append, List.length_take, strI_length]; omega)]
      rfl
theorem all_good (zs : List Int) : ∀ (ops : List OpV) (front : List Int), (∀ o ∈ ops, o.ok) → (∀ o ∈ ops, o.s.size ≤ 60) → zs = front ++ ops.flatMap opC → rdAll zs ops (s0 front.length) = (s0 zs.length, true) := by
  intro ops
  induction ops with
  | nil => intro front _ _ e; subst e; simp [rdAll]
  | cons o os ih =>
    intro front h1 h2 e
    rw [List.flatMap_cons] at e
    have hg := op_good front (os.flatMap opC) o (h1 o (by simp)) (h2 o (by simp))
    rw [← e] at hg
    have := ih (front ++ opC o) (fun x hx => h1 x (by simp [hx])) (fun x hx => h2 x (by simp [hx])) (by rw [e, List.append_assoc])
    rw [List.length_append] at this
    simp only [rdAll]
    rw [hg, if_pos ⟨rfl, rfl⟩]
    exact this
theorem all_cut (zs : List Int) : ∀ (ops : List OpV) (front : List Int) (d : Nat), (∀ o ∈ ops, o.ok) → (∀ o ∈ ops, o.s.size ≤ 60) → d < (ops.flatMap opC).length → zs = front ++ (ops.flatMap opC).take d →
    (rdAll zs ops (s0 front.length)).2 = false ∧ (rdAll zs ops (s0 front.length)).1.e = 20 := by
  intro ops
  induction ops with
  | nil => intro front d _ _ hd; simp at hd
  | cons o os ih =>
    intro front d h1 h2 hd e
    rw [List.flatMap_cons] at e hd
    simp only [rdAll]
    by_cases hlt : d < (opC o).length
    · rw [List.take_append_of_le_length (by omega)] at e
      have hc := op_cut front o (h2 o (by simp)) d hlt
      rw [← e] at hc
      rw [if_neg (by rw [hc]; simp)]
      exact ⟨rfl, hc⟩
    · rw [List.take_append, List.take_of_length_le (by omega)] at e
      have hg := op_good front ((os.flatMap opC).take (d - (opC o).length)) o (h1 o (by simp)) (h2 o (by simp))
      rw [← e] at hg
      rw [List.length_append] at hd
      have := ih (front ++ opC o) (d - (opC o).length) (fun x hx => h1 x (by simp [hx])) (fun x hx => h2 x (by simp [hx])) (by omega) (by rw [e, List.append_assoc])
      rw [List.length_append] at this
      rw [hg, if_pos ⟨rfl, rfl⟩]
      exact this
end Go.Proofs.Ytlnocekiaffbpaa
