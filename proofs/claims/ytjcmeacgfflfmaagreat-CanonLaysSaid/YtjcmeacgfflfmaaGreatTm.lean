/- Plain: rows of keys in order, each with something; trees that hold them. No program in this text. -/
import Derived.Lib.Hide
set_option linter.unusedVariables false
set_option linter.unusedSectionVars false
namespace Go.Proofs.YtjcmeacgfflfmaaGreat.Rk

/-- An order: of two that are no less than each other either way there is one. -/
structure Lin {X : Type} (lt : X → X → Bool) : Prop where
  irr : ∀ a, lt a a = false
  trans : ∀ a b c, lt a b = true → lt b c = true → lt a c = true
  tri : ∀ a b, lt a b = false → lt b a = false → a = b
theorem Lin.asymm {X : Type} {lt : X → X → Bool} (h : Lin lt) {a b : X} (hab : lt a b = true) : lt b a = false := by
  cases hc : lt b a with
  | false => rfl
  | true => have := h.trans a b a hab hc; rw [h.irr] at this; cases this

section
variable {X V : Type} (lt : X → X → Bool)
def Srt (l : List (X × V)) : Prop := l.Pairwise (fun a b => lt a.1 b.1 = true)
def ins (k : X) (v : V) : List (X × V) → List (X × V)
  | [] => [(k, v)]
  | p :: r => if lt k p.1 = true then (k, v) :: p :: r else if lt p.1 k = true then p :: ins k v r else (p.1, v) :: r
def del (k : X) (l : List (X × V)) : List (X × V) := l.filter (fun p => lt p.1 k || lt k p.1)
def get (k : X) (l : List (X × V)) : Option V := (l.find? (fun p => !lt p.1 k && !lt k p.1)).map (·.2)
def rk (k : X) (l : List (X × V)) : Nat := (l.filter (fun p => lt p.1 k)).length
end

section
variable {X V : Type} {lt : X → X → Bool}
theorem Srt.split {A B : List (X × V)} {p : X × V} (h : Srt lt (A ++ p :: B)) : Srt lt A ∧ Srt lt B ∧ (∀ a ∈ A, lt a.1 p.1 = true) ∧ (∀ b ∈ B, lt p.1 b.1 = true) := by
  obtain ⟨h1, h2, h3⟩ := List.pairwise_append.1 h
  obtain ⟨h4, h5⟩ := List.pairwise_cons.1 h2
  exact ⟨h1, h5, fun a ha => h3 a ha p (List.mem_cons_self ..), h4⟩
theorem ins_lt (A B : List (X × V)) (p : X × V) (k : X) (v : V) (h : lt k p.1 = true) : ins lt k v (A ++ p :: B) = ins lt k v A ++ p :: B := by
  induction A with
  | nil => simp [ins, h]
  | cons a A ih =>
    simp only [List.cons_append, ins]
    split
    · rfl
    · split
      · rw [ih]; rfl
      · rfl
theorem ins_gt (hl : Lin lt) (A B : List (X × V)) (p : X × V) (k : X) (v : V) (hs : Srt lt (A ++ p :: B)) (h : lt p.1 k = true) : ins lt k v (A ++ p :: B) = A ++ p :: ins lt k v B := by
  have h3 := hs.split.2.2.1
  clear hs
  induction A with
  | nil => simp [ins, h, hl.asymm h]
  | cons a A ih =>
    have ha := hl.trans _ _ _ (h3 a (List.mem_cons_self ..)) h
    simp only [List.cons_append, ins, ha, hl.asymm ha, if_true]
    rw [ih (fun b hb => h3 b (List.mem_cons_of_mem _ hb))]
    simp
theorem ins_eq (hl : Lin lt) (A B : List (X × V)) (p : X × V) (v : V) (hs : Srt lt (A ++ p :: B)) : ins lt p.1 v (A ++ p :: B) = A ++ (p.1, v) :: B := by
  have h3 := hs.split.2.2.1
  clear hs
  induction A with
  | nil => simp [ins, hl.irr]
  | cons a A ih =>
    have ha := h3 a (List.mem_cons_self ..)
    simp only [List.cons_append, ins, ha, hl.asymm ha, if_true]
    rw [ih (fun b hb => h3 b (List.mem_cons_of_mem _ hb))]
    simp
theorem del_all {k : X} {l : List (X × V)} (h : ∀ a ∈ l, (lt a.1 k || lt k a.1) = true) : del lt k l = l := List.filter_eq_self.2 h
theorem del_append (k : X) (A B : List (X × V)) : del lt k (A ++ B) = del lt k A ++ del lt k B := List.filter_append ..
theorem del_lt (hl : Lin lt) (A B : List (X × V)) (p : X × V) (k : X) (hs : Srt lt (A ++ p :: B)) (h : lt k p.1 = true) : del lt k (A ++ p :: B) = del lt k A ++ p :: B := by
  obtain ⟨_, _, _, h4⟩ := hs.split
  rw [del_append]
  congr 1
  refine del_all fun a ha => ?_
  rcases List.mem_cons.1 ha with rfl | ha
  · simp [h]
  · simp [hl.trans _ _ _ h (h4 a ha)]
theorem del_gt (hl : Lin lt) (A B : List (X × V)) (p : X × V) (k : X) (hs : Srt lt (A ++ p :: B)) (h : lt p.1 k = true) : del lt k (A ++ p :: B) = A ++ p :: del lt k B := by
  obtain ⟨_, _, h3, _⟩ := hs.split
  rw [del_append, del_all fun a ha => by simp [hl.trans _ _ _ (h3 a ha) h]]
  simp [del, h]
theorem del_eq (hl : Lin lt) (A B : List (X × V)) (p : X × V) (hs : Srt lt (A ++ p :: B)) : del lt p.1 (A ++ p :: B) = A ++ B := by
  obtain ⟨_, _, h3, h4⟩ := hs.split
  rw [del_append, del_all fun a ha => by simp [h3 a ha]]
  have : del lt p.1 (p :: B) = del lt p.1 B := by simp [del, hl.irr]
  rw [this, del_all fun a ha => by simp [h4 a ha]]
theorem rk_append (k : X) (A B : List (X × V)) : rk lt k (A ++ B) = rk lt k A + rk lt k B := by simp [rk]
theorem rk_none {k : X} {l : List (X × V)} (h : ∀ a ∈ l, lt a.1 k = false) : rk lt k l = 0 := by
  unfold rk
  rw [List.filter_eq_nil_iff.2 (fun a ha => by simp [h a ha])]
  rfl
theorem rk_all {k : X} {l : List (X × V)} (h : ∀ a ∈ l, lt a.1 k = true) : rk lt k l = l.length := by
  unfold rk
  rw [List.filter_eq_self.2 h]
theorem rk_le (k : X) (l : List (X × V)) : rk lt k l ≤ l.length := List.length_filter_le _ _
theorem rk_ge (hl : Lin lt) (A B : List (X × V)) (p : X × V) (k : X) (hs : Srt lt (A ++ p :: B)) (h : lt p.1 k = false) : rk lt k (A ++ p :: B) = rk lt k A := by
  obtain ⟨_, _, _, h4⟩ := hs.split
  rw [rk_append, rk_none (l := p :: B), Nat.add_zero]
  intro a ha
  rcases List.mem_cons.1 ha with rfl | ha
  · exact h
  · cases hc : lt a.1 k with
    | false => rfl
    | true => have := hl.trans _ _ _ (h4 a ha) hc; rw [h] at this; cases this
theorem rk_gt (hl : Lin lt) (A B : List (X × V)) (p : X × V) (k : X) (hs : Srt lt (A ++ p :: B)) (h : lt p.1 k = true) : rk lt k (A ++ p :: B) = A.length + 1 + rk lt k B := by
  obtain ⟨_, _, h3, _⟩ := hs.split
  rw [rk_append, rk_all fun a ha => hl.trans _ _ _ (h3 a ha) h, show p :: B = [p] ++ B from rfl, rk_append, rk_all (l := [p]) (by simp [h])]
  simp; omega
theorem get_append (k : X) (A B : List (X × V)) (h : ∀ a ∈ A, (!lt a.1 k && !lt k a.1) = false) : get lt k (A ++ B) = get lt k B := by
  unfold get
  rw [List.find?_append, List.find?_eq_none.2 (fun a ha => by rw [h a ha]; simp)]
  rfl
theorem get_none {k : X} {l : List (X × V)} (h : ∀ a ∈ l, (!lt a.1 k && !lt k a.1) = false) : get lt k l = none := by
  unfold get
  rw [List.find?_eq_none.2 (fun a ha => by rw [h a ha]; simp)]
  rfl
theorem get_lt (hl : Lin lt) (A B : List (X × V)) (p : X × V) (k : X) (hs : Srt lt (A ++ p :: B)) (h : lt k p.1 = true) : get lt k (A ++ p :: B) = get lt k A := by
  obtain ⟨_, _, _, h4⟩ := hs.split
  unfold get
  have hn : (p :: B).find? (fun q => !lt q.1 k && !lt k q.1) = none := by
    rw [List.find?_eq_none]
    intro a ha
    rcases List.mem_cons.1 ha with rfl | ha
    · simp [h]
    · simp [hl.trans _ _ _ h (h4 a ha)]
  rw [List.find?_append, hn, Option.or_none]
theorem get_gt (hl : Lin lt) (A B : List (X × V)) (p : X × V) (k : X) (hs : Srt lt (A ++ p :: B)) (h : lt p.1 k = true) : get lt k (A ++ p :: B) = get lt k B := by
  obtain ⟨_, _, h3, _⟩ := hs.split
  rw [get_append k A _ (fun a ha => by simp [hl.trans _ _ _ (h3 a ha) h]), show p :: B = [p] ++ B from rfl, get_append k [p] _ (by simp [h])]
theorem get_eq (hl : Lin lt) (A B : List (X × V)) (p : X × V) (hs : Srt lt (A ++ p :: B)) : get lt p.1 (A ++ p :: B) = some p.2 := by
  obtain ⟨_, _, h3, _⟩ := hs.split
  rw [get_append p.1 A _ (fun a ha => by simp [h3 a ha])]
  simp [get, hl.irr]
theorem ins_mem (k : X) (v : V) (l : List (X × V)) : ∀ q ∈ ins lt k v l, q = (k, v) ∨ q ∈ l ∨ ∃ p ∈ l, q = (p.1, v) := by
  induction l with
  | nil => intro q hq; simp [ins] at hq; exact .inl hq
  | cons p r ih =>
    intro q hq
    unfold ins at hq
    split at hq
    · rcases List.mem_cons.1 hq with h | h
      · exact .inl h
      · exact .inr (.inl h)
    · split at hq
      · rcases List.mem_cons.1 hq with h | h
        · exact .inr (.inl (h ▸ List.mem_cons_self ..))
        · rcases ih q h with h | h | ⟨p', h1, h2⟩
          · exact .inl h
          · exact .inr (.inl (List.mem_cons_of_mem _ h))
          · exact .inr (.inr ⟨p', List.mem_cons_of_mem _ h1, h2⟩)
      · rcases List.mem_cons.1 hq with h | h
        · exact .inr (.inr ⟨p, List.mem_cons_self .., h⟩)
        · exact .inr (.inl (List.mem_cons_of_mem _ h))
theorem ins_srt (hl : Lin lt) (k : X) (v : V) : ∀ (l : List (X × V)), Srt lt l → Srt lt (ins lt k v l)
  | [], _ => by simp [ins, Srt]
  | p :: r, h => by
    obtain ⟨h1, h2⟩ := List.pairwise_cons.1 h
    unfold ins
    split
    · next hk =>
      refine List.pairwise_cons.2 ⟨fun a ha => ?_, h⟩
      rcases List.mem_cons.1 ha with rfl | ha
      · exact hk
      · exact hl.trans _ _ _ hk (h1 a ha)
    · next hk =>
      split
      · next hp =>
        refine List.pairwise_cons.2 ⟨fun a ha => ?_, ins_srt hl k v r h2⟩
        rcases ins_mem k v r a ha with rfl | h3 | ⟨q, hq, rfl⟩
        · exact hp
        · exact h1 a h3
        · exact h1 q hq
      · exact List.pairwise_cons.2 ⟨h1, h2⟩
theorem del_srt (k : X) {l : List (X × V)} (h : Srt lt l) : Srt lt (del lt k l) := h.filter _
theorem del_length_le (k : X) (l : List (X × V)) : (del lt k l).length ≤ l.length := List.length_filter_le _ _
theorem ins_length_le (k : X) (v : V) : ∀ l : List (X × V), (ins lt k v l).length ≤ l.length + 1
  | [] => by simp [ins]
  | p :: r => by
    unfold ins
    split
    · simp
    · split
      · have := ins_length_le k v r; simp; omega
      · simp
theorem get_cons (k : X) (p : X × V) (r : List (X × V)) : get lt k (p :: r) = if (!lt p.1 k && !lt k p.1) = true then some p.2 else get lt k r := by
  unfold get
  rw [List.find?_cons]
  split <;> simp_all
theorem ins_length (hl : Lin lt) (k : X) (v : V) : ∀ l : List (X × V), Srt lt l → (ins lt k v l).length = if (get lt k l).isSome = true then l.length else l.length + 1
  | [], _ => by simp [ins, get]
  | p :: r, h => by
    obtain ⟨h1, h2⟩ := List.pairwise_cons.1 h
    rw [get_cons]
    unfold ins
    split
    · next hk =>
      have hn : get lt k r = none := get_none (fun a ha => by simp [hl.trans _ _ _ hk (h1 a ha)])
      have e : (if (!lt p.1 k && !lt k p.1) = true then some p.2 else get lt k r) = get lt k r := if_neg (by simp [hk])
      rw [e, hn]
      simp
    · next hk =>
      split
      · next hp =>
        have e : (if (!lt p.1 k && !lt k p.1) = true then some p.2 else get lt k r) = get lt k r := if_neg (by simp [hp])
        rw [e, List.length_cons, ins_length hl k v r h2]
        cases get lt k r <;> simp
      · next hp =>
        have e : (if (!lt p.1 k && !lt k p.1) = true then some p.2 else get lt k r) = some p.2 := if_pos (by simp [hp, hk])
        rw [e]
        simp
theorem ins_length_gt (hl : Lin lt) (k : X) (v : V) (l : List (X × V)) (h : Srt lt l) : decide ((l.length : Int) < ((ins lt k v l).length : Int)) = (get lt k l).isNone := by
  rw [ins_length hl k v l h]
  cases get lt k l <;> simp <;> omega

/-- Trees. -/
inductive T (X V : Type) where
  | nil
  | node (l : T X V) (k : X) (v : V) (r : T X V)
def T.list : T X V → List (X × V)
  | .nil => []
  | .node l k v r => l.list ++ (k, v) :: r.list
def T.count : T X V → Nat
  | .nil => 0
  | .node l _ _ r => l.count + 1 + r.count
theorem T.list_length : ∀ t : T X V, t.list.length = t.count
  | .nil => rfl
  | .node l k v r => by simp [T.list, T.count, T.list_length l, T.list_length r]; omega
theorem T.nil_of {t : T X V} (h : t.count = 0) : t = .nil := by
  cases t with
  | nil => rfl
  | node l k v r => simp [T.count] at h
end
end Go.Proofs.YtjcmeacgfflfmaaGreat.Rk
