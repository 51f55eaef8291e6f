/- General: a heap of structs in memory: a block with an order, a list and a count; the list's block. No program in this text. General: what is gathered in a slice made ahead, while a heap is turned. No program in this text. -/
import Derived.Test.YtjcmeacgfflfmaaGreatHg
import Derived.Test.YtjcmeacgfflfmaaGreatHp
import Derived.Test.YtjcmeacgfflfmaaGreatRg
import Derived.Test.YtjcmeacgfflfmaaGreatMrw
set_option linter.unusedVariables false
set_option linter.unusedSectionVars false
set_option linter.unusedSimpArgs false
namespace Go.Proofs.YtjcmeacgfflfmaaGreat
open Go.RowKit

theorem Turned.reflG (R : Nat → Prop) (w : World) : Turned R w w := ⟨rfl, rfl, rfl, Nat.le_refl _, fun _ _ _ => rfl⟩
theorem Turned.transG {R S T : Nat → Prop} {a b c : World} (h : Turned R a b) (k : Turned S b c) (h1 : ∀ i, i < a.heap.size → R i → T i) (h2 : ∀ i, i < a.heap.size → S i → T i) : Turned T a c :=
  ⟨k.os.trans h.os, k.tape.trans h.tape, k.output.trans h.output, Nat.le_trans h.size k.size, fun i hi hn =>
    (k.block i (Nat.lt_of_lt_of_le hi h.size) (fun e => hn (h2 i hi e))).trans (h.block i hi (fun e => hn (h1 i hi e)))⟩
theorem Turned.of_below {R : Nat → Prop} {w w' : World} (h : Below w.heap.size w w') : Turned R w w' := ⟨h.os, h.tape, h.output, h.size, fun k hk _ => h.block k hk⟩
theorem Turned.of_grown {w w' : World} {row : Option Nat} (h : w.grownBy w' row) : Turned (fun k => some k = row) w w' := ⟨h.os, h.tape, h.output, h.size, fun k hk hn => h.block k hk hn⟩
theorem Turned.mono {R S : Nat → Prop} {w w' : World} (h : Turned R w w') (hs : ∀ i, i < w.heap.size → R i → S i) : Turned S w w' := ⟨h.os, h.tape, h.output, h.size, fun k hk hn => h.block k hk (fun e => hn (hs k hk e))⟩
theorem Turned.below {R : Nat → Prop} {w w' : World} (h : Turned R w w') {B : Nat} (hB : ∀ k, k < B → ¬ R k) (hs : B ≤ w.heap.size) : Below B w w' := ⟨h.os, h.tape, h.output, h.size, fun k hk => h.block k (Nat.lt_of_lt_of_le hk hs) (hB k hk)⟩
theorem Turned.owns {R : Nat → Prop} {w w' : World} (h : Turned R w w') {base : Nat} {e : TypeId} {size : Nat} {v : Value} {n : Nat} {xs : List Value} (ho : w.ownsRow base e size v n xs) (hn : ∀ g, v.ownBlock = some g → ¬ R g) : w'.ownsRow base e size v n xs := by
  refine ⟨ho.1, ?_⟩
  rcases ho.2 with h1 | ⟨g, cap, cur, rfl, hb, hg, r⟩
  · exact .inl h1
  · exact .inr ⟨g, cap, cur, rfl, hb, h.old hg (hn g rfl), r⟩
theorem Turned.gath {R : Nat → Prop} {w w' : World} (h : Turned R w w') {base : Nat} {e : TypeId} {size : Nat} {v : Value} {n : Nat} {xs : List Value} (ho : Gath w base e size v n xs) (hn : ∀ g, w.ownsRow base e size v n xs → v.ownBlock = some g → ¬ R g) : Gath w' base e size v n xs := by
  rcases ho with h1 | h1
  · exact .inl h1
  · exact .inr (h.owns h1 (fun g => hn g h1))
namespace Hg
theorem below_drew (W : World) : Below W.heap.size W W.drew := (Below.refl _ _).drew
theorem below_drewN (W : World) (n : Nat) : Below W.heap.size W (W.drewN n) := ⟨rfl, rfl, rfl, Nat.le_refl _, fun _ _ => rfl⟩
/-- Values, set one behind the other. -/
def setL : List Value → Nat → List Value → List Value
  | l, _, [] => l
  | l, k, v :: r => setL (l.set k v) (k + 1) r
def setA : Array Value → Nat → List Value → Array Value
  | l, _, [] => l
  | l, k, v :: r => setA (l.setIfInBounds k v) (k + 1) r
def setC : World → Nat → Nat → List Value → World
  | w, _, _, [] => w
  | w, b, k, v :: r => setC (w.setCell ⟨b, k, none⟩ v) b (k + 1) r
theorem setL_length : ∀ (vs l : List Value) (k : Nat), (setL l k vs).length = l.length
  | [], l, k => rfl
  | v :: r, l, k => by unfold setL; rw [setL_length r, List.length_set]
theorem setL_get : ∀ (vs l : List Value) (k j : Nat), k + vs.length ≤ l.length → (setL l k vs)[j]? = if k ≤ j ∧ j < k + vs.length then vs[j - k]? else l[j]?
  | [], l, k, j, h => by unfold setL; rw [if_neg (by simp)]
  | v :: r, l, k, j, h => by
    simp only [List.length_cons] at h ⊢
    unfold setL
    rw [setL_get r _ (k + 1) j (by rw [List.length_set]; omega)]
    by_cases h1 : j = k
    · subst h1
      rw [if_neg (by omega), if_pos (by omega), List.getElem?_set_self (by omega)]
      simp
    · by_cases h2 : k ≤ j ∧ j < k + (r.length + 1)
      · rw [if_pos (by omega), if_pos h2, show j - k = (j - (k + 1)) + 1 by omega, List.getElem?_cons_succ]
      · rw [if_neg (by omega), if_neg h2, List.getElem?_set_ne (by omega)]
theorem setL_take : ∀ (vs l : List Value) (k n : Nat), (setL l k vs).take n = setL (l.take n) k vs
  | [], l, k, n => rfl
  | v :: r, l, k, n => by unfold setL; rw [setL_take r, List.take_set]
theorem setA_list : ∀ (vs : List Value) (cs : Array Value) (k : Nat), (setA cs k vs).toList = setL cs.toList k vs
  | [], cs, k => rfl
  | v :: r, cs, k => by unfold setA setL; rw [setA_list r, Array.toList_setIfInBounds]
theorem setA_size : ∀ (vs : List Value) (cs : Array Value) (k : Nat), (setA cs k vs).size = cs.size
  | [], cs, k => rfl
  | v :: r, cs, k => by unfold setA; rw [setA_size r, Array.size_setIfInBounds]
theorem setC_block : ∀ (vs : List Value) {w : World} {b : Nat} {cs : Array Value} {t : TypeId} {fr : Nat × Nat} (k : Nat), w.heap[b]? = some (.cells cs t fr) → (setC w b k vs).heap[b]? = some (.cells (setA cs k vs) t fr)
  | [], w, b, cs, t, fr, k, h => h
  | v :: r, w, b, cs, t, fr, k, h => by unfold setC setA; exact setC_block r (k + 1) (heap_set h k v)
theorem setC_turned : ∀ (vs : List Value) (w : World) (b k : Nat), Turned (fun j => j = b) w (setC w b k vs)
  | [], w, b, k => Turned.reflG _ _
  | v :: r, w, b, k => by
    unfold setC
    exact ((Turned.of_grown (grown_set w b k v)).mono (fun j _ e => by simpa using e)).transG (setC_turned r _ b (k + 1)) (fun _ _ e => e) (fun _ _ e => e)
section
variable {X : Type} [Inhabited X]
/-- What the things of a heap are in memory. -/
structure Kd (X : Type) where
  enc : X → List Value
  sz : Nat
  fv : Value
  th : TypeId
  te : TypeId
  hsz : ∀ x, (enc x).length = sz
  one : ∀ x, ∀ u ∈ enc x, u.oneCell' = true
  ne : th ≠ te
variable (K : Kd X)
def encT (e : X × Int) : List Value := K.enc e.1 ++ [.int .i64 e.2]
theorem encT_len (e : X × Int) : (encT K e).length = K.sz + 1 := by unfold encT; rw [List.length_append, K.hsz]; rfl
theorem encT_one (e : X × Int) : ∀ u ∈ encT K e, u.oneCell' = true := fun u hu => by
  unfold encT at hu
  rw [List.mem_append] at hu
  rcases hu with hu | hu
  · exact K.one _ u hu
  · simp at hu; subst hu; rfl
/-- Things with their turns, as cells. -/
def encs (L : List (X × Int)) : List Value := L.flatMap (encT K)
theorem encs_nil : encs K [] = [] := rfl
theorem encs_single (e : X × Int) : encs K [e] = encT K e := by unfold encs; simp
theorem encs_length : ∀ L : List (X × Int), (encs K L).length = L.length * (K.sz + 1)
  | [] => by simp [encs]
  | e :: r => by
    have := encs_length r
    unfold encs at *
    rw [List.flatMap_cons, List.length_append, encT_len, this, List.length_cons, Nat.add_mul]
    omega
theorem encs_append (L M : List (X × Int)) : encs K (L ++ M) = encs K L ++ encs K M := List.flatMap_append
theorem encs_one (L : List (X × Int)) : ∀ u ∈ encs K L, u.oneCell' = true := fun u hu => by
  unfold encs at hu
  obtain ⟨e, _, he⟩ := List.mem_flatMap.1 hu
  exact encT_one K e u he
theorem encs_get : ∀ (L : List (X × Int)) (i : Nat) (e : X × Int), L[i]? = some e → ∀ r, r < K.sz + 1 → (encs K L)[i * (K.sz + 1) + r]? = (encT K e)[r]?
  | [], i, e, h, r, hr => by simp at h
  | y :: L, 0, e, h, r, hr => by
    simp at h
    subst h
    unfold encs
    rw [List.flatMap_cons, Nat.zero_mul, Nat.zero_add, List.getElem?_append_left (by rw [encT_len]; exact hr)]
  | y :: L, i + 1, e, h, r, hr => by
    have ih := encs_get L i e (by simpa using h) r hr
    unfold encs at *
    rw [List.flatMap_cons, List.getElem?_append_right (by rw [encT_len, Nat.add_mul]; omega), encT_len, show (i + 1) * (K.sz + 1) + r - (K.sz + 1) = i * (K.sz + 1) + r by rw [Nat.add_mul]; omega]
    exact ih
theorem g_some {L : List (X × Int)} {i : Nat} (h : i < L.length) : L[i]? = some (g L i) := by rw [g_get h]; exact List.getElem?_eq_getElem h
theorem encs_at {L : List (X × Int)} {i : Nat} (h : i < L.length) {r : Nat} {u : Value} (hu : (encT K (g L i))[r]? = some u) : (encs K L)[i * (K.sz + 1) + r]? = some u := by
  have hr : r < K.sz + 1 := by rw [← encT_len K (g L i)]; exact (List.getElem?_eq_some_iff.1 hu).1
  rw [encs_get K L i _ (g_some h) r hr]
  exact hu
theorem encs_set (L : List (X × Int)) (i : Nat) (x : X × Int) (h : i < L.length) : encs K (L.set i x) = setL (encs K L) (i * (K.sz + 1)) (encT K x) := by
  have hle : (i + 1) * (K.sz + 1) ≤ L.length * (K.sz + 1) := Nat.mul_le_mul_right _ h
  rw [Nat.add_mul] at hle
  apply List.ext_getElem?
  intro j
  rw [setL_get _ _ _ _ (by rw [encs_length, encT_len]; omega), encT_len]
  obtain ⟨q, r, hr, rfl⟩ : ∃ q r, r < K.sz + 1 ∧ j = q * (K.sz + 1) + r := ⟨j / (K.sz + 1), j % (K.sz + 1), Nat.mod_lt _ (by omega), by rw [Nat.mul_comm]; exact (Nat.div_add_mod j (K.sz + 1)).symm⟩
  by_cases hq : q < L.length
  · have h1 := encs_get K L q _ (g_some hq) r hr
    have h2 := encs_get K (L.set i x) q _ (g_some (by rw [List.length_set]; exact hq)) r hr
    rw [h2, h1, g_set _ _ _ _ h]
    by_cases e : i = q
    · subst e
      rw [if_pos rfl, if_pos ⟨Nat.le_add_right _ _, by omega⟩, Nat.add_sub_cancel_left]
    · rw [if_neg e, if_neg]
      rintro ⟨h3, h4⟩
      rcases Nat.lt_or_gt_of_ne e with h5 | h5
      · have : (i + 1) * (K.sz + 1) ≤ q * (K.sz + 1) := Nat.mul_le_mul_right _ h5
        rw [Nat.add_mul] at this
        omega
      · have : (q + 1) * (K.sz + 1) ≤ i * (K.sz + 1) := Nat.mul_le_mul_right _ h5
        rw [Nat.add_mul] at this
        omega
  · have : L.length * (K.sz + 1) ≤ q * (K.sz + 1) := Nat.mul_le_mul_right _ (by omega)
    rw [List.getElem?_eq_none (by rw [encs_length, List.length_set]; omega), if_neg (by omega), List.getElem?_eq_none (by rw [encs_length]; omega)]

/-- A heap in block hb, its list in block lb. -/
structure HMem (lo hb lb : Nat) (w : World) (v : Value) (L : List (X × Int)) (puts : Int) : Prop where
  box : w.heap[hb]? = some (.cells #[K.fv, v, .int .i64 puts] K.th (0, 0))
  own : w.ownsRow lo K.te (K.sz + 1) v L.length (encs K L)
  row : ∀ g, v.ownBlock = some g → g = lb
  low : lo ≤ hb
  lt : lb < w.heap.size
  real : v.ownBlock = some lb ∨ lb = hb
variable {K}
variable {lo hb lb : Nat} {w w' : World} {v : Value} {L : List (X × Int)} {puts : Int}
theorem HMem.turned (h : HMem K lo hb lb w v L puts) {R : Nat → Prop} (ht : Turned R w w') (h1 : ¬ R hb) (h2 : ¬ R lb) : HMem K lo hb lb w' v L puts :=
  ⟨ht.old h.box h1, ht.owns h.own (fun g hg => by rw [h.row g hg]; exact h2), h.row, h.low, Nat.lt_of_lt_of_le h.lt ht.size, h.real⟩
theorem HMem.below (h : HMem K lo hb lb w v L puts) (hb' : Below w.heap.size w w') : HMem K lo hb lb w' v L puts :=
  h.turned (R := fun _ => False) (Turned.of_below hb') id id
theorem HMem.shape (h : HMem K lo hb lb w v L puts) : (v = .slice none 0 0 ∧ L = []) ∨ ∃ cap cur, v = .slice (some ⟨lb, 0, none⟩) L.length cap ∧ lo ≤ lb ∧ w.heap[lb]? = some (.cells cur K.te (0, 0)) ∧ L.length ≤ cap ∧ cap ≤ maxLen ∧ cur.size = cap * (K.sz + 1) ∧ cur.toList.take (L.length * (K.sz + 1)) = encs K L ∧ lb ≠ hb := by
  rcases h.own.2 with ⟨h1, h2⟩ | ⟨g, cap, cur, hv, hb', hg, r⟩
  · exact .inl ⟨h1, List.length_eq_zero_iff.1 h2⟩
  · have : g = lb := h.row g (by rw [hv]; rfl)
    subst this
    refine .inr ⟨cap, cur, hv, hb', hg, r.1, r.2.1, r.2.2.1, r.2.2.2, fun e => ?_⟩
    subst e
    have := h.box
    rw [hg] at this
    injection this with this
    injection this with _ h3 _
    exact K.ne h3.symm
theorem HMem.cell (h : HMem K lo hb lb w v L puts) {i : Nat} (hi : i < L.length) {r : Nat} {u : Value} (hu : (encT K (g L i))[r]? = some u) : w.cell? ⟨lb, i * (K.sz + 1) + r, none⟩ = some u := by
  rcases h.shape with ⟨_, rfl⟩ | ⟨cap, cur, rfl, _, hg, hn, _, hcs, ht, _⟩
  · simp at hi
  · have hr : r < K.sz + 1 := by rw [← encT_len K (g L i)]; exact (List.getElem?_eq_some_iff.1 hu).1
    have h1 := encs_at K hi hu
    have hle : (i + 1) * (K.sz + 1) ≤ L.length * (K.sz + 1) := Nat.mul_le_mul_right _ hi
    rw [Nat.add_mul] at hle
    refine heap_cell hg ?_
    rw [← ht, List.getElem?_take_of_lt (by omega)] at h1
    simpa using h1
theorem HMem.free (h : HMem K lo hb lb w v L puts) (hL : 0 < L.length) (i : Nat) : w.frozen? ⟨lb, i, none⟩ = false := by
  rcases h.shape with ⟨_, rfl⟩ | ⟨cap, cur, rfl, _, hg, _⟩
  · simp at hL
  · exact heap_frozen hg _
/-- The list has one thing stored at a place. -/
theorem HMem.stored (h : HMem K lo hb lb w v L puts) {i : Nat} (hi : i < L.length) (x : X × Int) :
    HMem K lo hb lb (setC w lb (i * (K.sz + 1)) (encT K x)) v (L.set i x) puts ∧ Turned (fun k => k = lb) w (setC w lb (i * (K.sz + 1)) (encT K x)) := by
  have hT := setC_turned (encT K x) w lb (i * (K.sz + 1))
  rcases h.shape with ⟨_, rfl⟩ | ⟨cap, cur, rfl, hlo, hg, hn, hm, hcs, ht, hne⟩
  · simp at hi
  · refine ⟨⟨hT.old h.box (fun e => hne e.symm), ⟨by rw [encs_length], .inr ⟨lb, cap, _, by rw [List.length_set], hlo, setC_block _ _ hg, by rw [List.length_set]; exact hn, hm, by rw [setA_size]; exact hcs, ?_⟩⟩, h.row, h.low, Nat.lt_of_lt_of_le h.lt hT.size, h.real⟩, hT⟩
    rw [List.length_set, encs_set K L i x hi, setA_list, setL_take, ht]
/-- The count is another. -/
theorem HMem.counted (h : HMem K lo hb lb w v L puts) (p : Int) :
    HMem K lo hb lb (w.setCell ⟨hb, 2, none⟩ (.int .i64 p)) v L p ∧ Turned (fun k => k = hb) w (w.setCell ⟨hb, 2, none⟩ (.int .i64 p)) := by
  have ht : Turned (fun k => k = hb) w (w.setCell ⟨hb, 2, none⟩ (.int .i64 p)) := (Turned.of_grown (grown_set w hb 2 (.int .i64 p))).mono (fun k _ e => by simpa using e)
  refine ⟨⟨heap_set h.box 2 (.int .i64 p), ht.owns h.own (fun g hg e => ?_), h.row, h.low, Nat.lt_of_lt_of_le h.lt ht.size, h.real⟩, ht⟩
  have h1 := h.row g hg
  rcases h.shape with ⟨rfl, _⟩ | ⟨cap, cur, rfl, _, _, _, _, _, _, hne⟩
  · simp [Value.ownBlock] at hg
  · exact hne (by rw [← h1, e])
/-- The list is another one. -/
theorem HMem.appended {g cap : Nat} {V w1 : World} {p : Int} {x : X × Int} (h : HMem K lo hb lb V v L p)
    (hown : w1.ownsRow lo K.te (K.sz + 1) (.slice (some ⟨g, 0, none⟩) (L.length + 1) cap) (L.length + 1) (encs K L ++ encs K [x])) (hg : V.grownBy w1 v.ownBlock) (hw : v.ownBlock = some g ∨ V.heap.size ≤ g) :
    w1.heap[hb]? = some (.cells #[K.fv, v, .int .i64 p] K.th (0, 0)) ∧
    HMem K lo hb g (w1.setCell ⟨hb, 1, none⟩ (.slice (some ⟨g, 0, none⟩) (L.length + 1) cap)) (.slice (some ⟨g, 0, none⟩) (L.length + 1) cap) (L ++ [x]) p ∧ (g = lb ∨ V.heap.size ≤ g) ∧
    Turned (fun k => k = hb ∨ k = lb) V (w1.setCell ⟨hb, 1, none⟩ (.slice (some ⟨g, 0, none⟩) (L.length + 1) cap)) := by
  have hne : v.ownBlock ≠ some hb := by
    intro e
    have h1 := h.row hb e
    rcases h.shape with ⟨rfl, _⟩ | ⟨_, _, _, _, _, _, _, _, _, hn⟩
    · simp [Value.ownBlock] at e
    · exact hn h1.symm
  have hbox := heap_kept h.box hg (fun e => hne e.symm)
  have hgh : ∃ cur, w1.heap[g]? = some (.cells cur K.te (0, 0)) := by
    rcases hown.2 with ⟨h1, _⟩ | ⟨g', _, cur, h1, _, h2, _⟩
    · simp at h1
    · simp at h1; rw [h1.1]; exact ⟨cur, h2⟩
  obtain ⟨cur, hcur⟩ := hgh
  have hgb : g ≠ hb := by
    intro e
    subst e
    rw [hcur] at hbox
    injection hbox with hbox
    injection hbox with _ h3 _
    exact K.ne h3.symm
  have t1 : Turned (fun k => k = hb ∨ k = lb) V w1 := (Turned.of_grown hg).mono (fun k _ e => .inr (h.row k e.symm))
  have t2 : Turned (fun k => k = hb) w1 (w1.setCell ⟨hb, 1, none⟩ (.slice (some ⟨g, 0, none⟩) (L.length + 1) cap)) := (Turned.of_grown (grown_set w1 hb 1 _)).mono (fun k _ e => by simpa using e)
  refine ⟨hbox, ⟨heap_set hbox 1 _, ?_, fun j hj => by simp [Value.ownBlock] at hj; exact hj.symm, h.low, Nat.lt_of_lt_of_le (heap_lt hcur) t2.size, .inl rfl⟩, hw.imp (fun e => h.row g e) id, t1.transG t2 (fun _ _ e => e) (fun _ _ e => .inl e)⟩
  rw [encs_append, List.length_append]
  exact t2.owns hown (fun j hj e => hgb (by simp [Value.ownBlock] at hj; rw [hj, e]))
/-- What is no part of the heap. -/
theorem HMem.other (h : HMem K lo hb lb w v L puts) {k : Nat} {o : Obj} (ho : w.heap[k]? = some o) (h1 : ∀ cs fr, o ≠ .cells cs K.th fr) (h2 : ∀ cs fr, o ≠ .cells cs K.te fr) : ¬ (k = hb ∨ k = lb) := by
  have hk : k ≠ hb := by
    intro e
    subst e
    rw [h.box] at ho
    cases ho
    exact h1 _ _ rfl
  rintro (e | e)
  · exact hk e
  · rcases h.real with hr | hr
    · rcases h.shape with ⟨rfl, _⟩ | ⟨cap, cur, rfl, _, hg, _⟩
      · simp [Value.ownBlock] at hr
      · subst e
        rw [hg] at ho
        cases ho
        exact h2 _ _ rfl
    · exact hk (e.trans hr)
/-- The list without its last one. -/
theorem HMem.cut {cap : Nat} {N : List (X × Int)} {y : X × Int} {p : Int} (h : HMem K lo hb lb w (.slice (some ⟨lb, 0, none⟩) (N.length + 1) cap) (N ++ [y]) p) :
    HMem K lo hb lb (w.setCell ⟨hb, 1, none⟩ (.slice (some ⟨lb, 0, none⟩) N.length cap)) (.slice (some ⟨lb, 0, none⟩) N.length cap) N p ∧ Turned (fun k => k = hb) w (w.setCell ⟨hb, 1, none⟩ (.slice (some ⟨lb, 0, none⟩) N.length cap)) := by
  have ht : Turned (fun k => k = hb) w (w.setCell ⟨hb, 1, none⟩ (.slice (some ⟨lb, 0, none⟩) N.length cap)) := (Turned.of_grown (grown_set w hb 1 _)).mono (fun k _ e => by simpa using e)
  rcases h.shape with ⟨h1, _⟩ | ⟨cap', cur, h1, hlo, hg, hn, hm, hcs, hk, hne⟩
  · simp at h1
  · simp at h1
    obtain rfl : cap = cap' := h1
    rw [List.length_append, List.length_singleton] at hn hk
    refine ⟨⟨heap_set h.box 1 _, ⟨encs_length K _, .inr ⟨lb, cap, cur, rfl, hlo, ht.old hg hne, by omega, hm, hcs, ?_⟩⟩, fun g hg => by simp [Value.ownBlock] at hg; exact hg.symm, h.low, Nat.lt_of_lt_of_le h.lt ht.size, .inl rfl⟩, ht⟩
    have h2 := congrArg (List.take (N.length * (K.sz + 1))) hk
    rw [List.take_take, encs_append, List.take_left' (encs_length K N), Nat.min_eq_left (Nat.mul_le_mul_right _ (by omega))] at h2
    exact h2
theorem set_last (N : List (X × Int)) (e x z : X × Int) : ((N ++ [e]).set 0 x).set N.length z = N.set 0 x ++ [z] := by
  cases N with
  | nil => rfl
  | cons a r => simp
variable {kf : Ord X}
theorem M_heap {M : List (X × Int)} {e : X × Int} (h : Heap kf (M ++ [e])) : Heap kf M := by
  intro c h0 hc
  have ho := over_lt h0
  have := h c h0 (by simp; omega)
  rw [g_append_left _ _ hc, g_append_left _ _ (by omega)] at this
  exact this
/-- A heap of a row. -/
def HIs (K : Kd X) (kf : Ord X) (lo hb lb : Nat) (w : World) (row : List X) (puts : Int) : Prop := ∃ v L, HMem K lo hb lb w v L puts ∧ Holds kf L row puts
theorem HIs.turned {row : List X} (h : HIs K kf lo hb lb w row puts) {R : Nat → Prop} (ht : Turned R w w') (h1 : ¬ R hb) (h2 : ¬ R lb) : HIs K kf lo hb lb w' row puts := by
  obtain ⟨v, L, hm, hh⟩ := h
  exact ⟨v, L, hm.turned ht h1 h2, hh⟩
theorem HIs.below {row : List X} (h : HIs K kf lo hb lb w row puts) (ht : Below w.heap.size w w') : HIs K kf lo hb lb w' row puts :=
  h.turned (R := fun _ => False) (Turned.of_below ht) id id
theorem HIs.other {row : List X} (h : HIs K kf lo hb lb w row puts) {k : Nat} {o : Obj} (ho : w.heap[k]? = some o) (h1 : ∀ cs fr, o ≠ .cells cs K.th fr) (h2 : ∀ cs fr, o ≠ .cells cs K.te fr) : ¬ (k = hb ∨ k = lb) := by
  obtain ⟨v, L, hm, _⟩ := h
  exact hm.other ho h1 h2
theorem HIs.lts {row : List X} (h : HIs K kf lo hb lb w row puts) : hb < w.heap.size ∧ lb < w.heap.size := by
  obtain ⟨v, L, hm, _⟩ := h
  exact ⟨heap_lt hm.box, hm.lt⟩
/-- What Peek and Pop answer. -/
def topV (z : X) (kf : Ord X) (row : List X) : X := if row.length = 0 then z else row.getD (first kf row) default
theorem topV_nil (z : X) (kf : Ord X) {row : List X} (h : row.length = 0) : topV z kf row = z := if_pos h
theorem topV_of (z : X) (kf : Ord X) {row : List X} (h : row.length ≠ 0) : topV z kf row = row.getD (first kf row) default := if_neg h

/-- The round's world. -/
structure RoomW (K : Kd X) (w : World) (e : X × Int) (W : World) : Prop where
  below : Below w.heap.size w W
  box : W.heap[w.heap.size]? = some (.cells (encT K e).toArray K.te (0, 0))
theorem RoomW.next {W W' : World} {e : X × Int} (h : RoomW K w e W) (hb : Below W.heap.size W W') : RoomW K w e W' :=
  ⟨h.below.trans (hb.mono h.below.size), heap_below h.box hb (heap_lt h.box)⟩
theorem RoomW.drewN {W : World} {e : X × Int} (h : RoomW K w e W) (n : Nat) : RoomW K w e (W.drewN n) := h.next (below_drewN _ _)
theorem RoomW.drew {W : World} {e : X × Int} (h : RoomW K w e W) : RoomW K w e W.drew := h.next (below_drew _)
def RoomPost (kf : Ord X) (L : List (X × Int)) (n : Nat) (e : X × Int) (w : World) (en : Ending) (w' : World) : Prop := ∃ r : Nat, en = .returned (.int .i64 r) ∧ RoomOk kf (L.take n) e r ∧ Below w.heap.size w w'
/-- What the loop holds. -/
def RoomL (kf : Ord X) (L : List (X × Int)) (n : Nat) (e : X × Int) (k : Nat) : Prop := (k < n ∨ k = 0) ∧ Least kf (L.take n) k ∧ (k = 0 ∨ ahead kf (g L k) e = true)
theorem g_take {n i : Nat} (h : i < n) : g (L.take n) i = g L i := by
  unfold g
  simp only [List.getD_eq_getElem?_getD, List.getElem?_take_of_lt h]
/-- The least of those under a place. -/
structure IsKid (kf : Ord X) (L : List (X × Int)) (n k m : Nat) : Prop where
  pos : 0 < m
  lt : m < n
  over : Hg.over m = k
  least : ∀ s, 0 < s → s < n → Hg.over s = k → ahead kf (g L s) (g L m) = false
theorem kid_one {n k : Nat} (h1 : 2 * k + 1 < n) (h2 : n ≤ 2 * k + 1 + 1) : IsKid kf L n k (2 * k + 1) :=
  ⟨by omega, h1, by unfold Hg.over; omega, fun s h0 hs ho => by
    have : s = 2 * k + 1 := by rcases over_kid h0 ho with h | h <;> omega
    subst this; exact nb_refl _⟩
theorem kid_a {n k : Nat} (h1 : 2 * k + 1 + 1 < n) (h : ahead kf (g L (2 * k + 1 + 1)) (g L (2 * k + 1)) = false) : IsKid kf L n k (2 * k + 1) :=
  ⟨by omega, by omega, by unfold Hg.over; omega, fun s h0 hs ho => by
    rcases over_kid h0 ho with h2 | h2
    · subst h2; exact nb_refl _
    · subst h2; exact h⟩
theorem kid_b {n k : Nat} (h1 : 2 * k + 1 + 1 < n) (h : ahead kf (g L (2 * k + 1 + 1)) (g L (2 * k + 1)) = true) : IsKid kf L n k (2 * k + 1 + 1) :=
  ⟨by omega, by omega, by unfold Hg.over; omega, fun s h0 hs ho => by
    rcases over_kid h0 ho with h2 | h2
    · subst h2; exact nb_of h
    · subst h2; exact nb_refl _⟩
theorem take_len {n : Nat} (h : n ≤ L.length) : (L.take n).length = n := by rw [List.length_take]; omega
theorem room_stop {n k : Nat} {e : X × Int} (hn : n ≤ L.length) (h : RoomL kf L n e k) (hc : n ≤ 2 * k + 1) : RoomOk kf (L.take n) e k := by
  have hl := take_len hn
  obtain ⟨h1, h2, h3⟩ := h
  refine ⟨by rw [hl]; exact h1, h2, ?_, fun c h0 hcl ho => ?_⟩
  · rcases h3 with h3 | h3
    · exact .inl h3
    · rcases h1 with h1 | h1
      · exact .inr (by rw [g_take h1]; exact h3)
      · exact .inl h1
  · rw [hl] at hcl
    rcases over_kid h0 ho with h | h <;> omega
theorem room_end {n k m : Nat} {e : X × Int} (hn : n ≤ L.length) (h : RoomL kf L n e k) (hk : IsKid kf L n k m) (ha : ahead kf (g L m) e = false) : RoomOk kf (L.take n) e k := by
  have hl := take_len hn
  obtain ⟨h1, h2, h3⟩ := h
  refine ⟨by rw [hl]; exact h1, h2, ?_, fun c h0 hcl ho => ?_⟩
  · rcases h3 with h3 | h3
    · exact .inl h3
    · rcases h1 with h1 | h1
      · exact .inr (by rw [g_take h1]; exact h3)
      · exact .inl h1
  · rw [hl] at hcl
    rw [g_take hcl]
    exact nb_trans (hk.least c h0 hcl ho) ha
theorem room_next {n k m : Nat} {e : X × Int} (hn : n ≤ L.length) (h : RoomL kf L n e k) (hk : IsKid kf L n k m) (ha : ahead kf (g L m) e = true) : RoomL kf L n e m := by
  have hl := take_len hn
  obtain ⟨h1, h2, h3⟩ := h
  refine ⟨.inl hk.lt, .down hk.pos (by rw [hl]; exact hk.lt) (fun s h0 hs ho => ?_) (by rw [hk.over]; exact h2), .inr ha⟩
  rw [hl] at hs
  rw [g_take hs, g_take hk.lt]
  exact hk.least s h0 hs (by rw [ho, hk.over])

/-- The world on the way up. -/
structure PW (K : Kd X) (w : World) (B : Nat) (e : X × Int) (W : World) : Prop where
  below : Below w.heap.size w W
  box : W.heap[B]? = some (.cells (encT K e).toArray K.te (0, 0))
  new : w.heap.size ≤ B
theorem PW.next {W W' : World} {B : Nat} {e : X × Int} (h : PW K w B e W) (hb : Below W.heap.size W W') : PW K w B e W' :=
  ⟨h.below.trans (hb.mono h.below.size), heap_below h.box hb (heap_lt h.box), h.new⟩
/-- What stands behind the append. -/
structure Pushed (K : Kd X) (lo hb lb : Nat) (w : World) (e : X × Int) (L : List (X × Int)) (puts : Int) (g cap : Nat) (W : World) : Prop where
  mem : HMem K lo hb g W (.slice (some ⟨g, 0, none⟩) (L.length + 1) cap) (L ++ [e]) (puts + 1)
  frame : Turned (fun k => k = hb ∨ k = lb) w W
  box : W.heap[w.heap.size + 1]? = some (.cells (encT K e).toArray K.te (0, 0))
  row : g = lb ∨ w.heap.size ≤ g
  apart : g ≠ w.heap.size + 1
theorem pushed_of {W0 W : World} {e : X × Int} {g cap : Nat} {o : Obj} (hf : Turned (fun k => k = hb ∨ k = lb) w W0) (hbx : W0.heap[w.heap.size + 1]? = some (.cells (encT K e).toArray K.te (0, 0))) (hlb : lb < w.heap.size) (hlt : hb < w.heap.size)
    (hm : HMem K lo hb g W (.slice (some ⟨g, 0, none⟩) (L.length + 1) cap) (L ++ [e]) (puts + 1)) (hl : g = lb ∨ (W0.drew.alloc o).heap.size ≤ g) (ht : Turned (fun k => k = hb ∨ k = lb) (W0.drew.alloc o) W) : Pushed K lo hb lb w e L puts g cap W := by
  have h1 := heap_lt hbx
  have h2 := hf.size
  refine ⟨hm, (hf.transG (Turned.of_below (R := fun _ => False) (((Below.refl W0.heap.size W0).drew).alloc (Nat.le_refl _) o)) (fun _ _ e => e) (fun _ _ e => e.elim)).transG ht (fun _ _ e => e) (fun _ _ e => e), ht.old (heap_alloc (w := W0.drew) hbx _) (by omega), ?_, ?_⟩
  · rcases hl with hl | hl
    · exact .inl hl
    · have h3 : W0.heap.size + 1 ≤ g := by simpa using hl
      exact .inr (by omega)
  · intro e
    rcases hl with hl | hl
    · omega
    · have h3 : W0.heap.size + 1 ≤ g := by simpa using hl
      omega
/-- The world on the way down. -/
structure PopW (K : Kd X) (ti : TypeId) (lo hb lb : Nat) (w : World) (B4 B7 : Nat) (tv z : X) (v : Value) (puts : Int) (x : X × Int) (N : List (X × Int)) (W : World) : Prop where
  frame : Turned (fun k => k = hb ∨ k = lb) w W
  mem : HMem K lo hb lb W v N puts
  tmp : W.heap[B7]? = some (.cells (encT K x).toArray K.te (0, 0))
  least : W.heap[B4]? = some (.cells (K.enc tv).toArray ti (0, 0))
  res : W.heap[w.heap.size]? = some (.cells (K.enc z).toArray ti (0, 0))
section
variable {ti : TypeId} {B4 B7 : Nat} {tv z : X} {x : X × Int} {N : List (X × Int)} {W W' : World}
theorem PopW.next (h : PopW K ti lo hb lb w B4 B7 tv z v puts x N W) (hb' : Below W.heap.size W W') : PopW K ti lo hb lb w B4 B7 tv z v puts x N W' :=
  ⟨h.frame.transG (Turned.of_below (R := fun _ => False) hb') (fun _ _ e => e) (fun _ _ e => e.elim), h.mem.below hb', heap_below h.tmp hb' (heap_lt h.tmp), heap_below h.least hb' (heap_lt h.least), heap_below h.res hb' (heap_lt h.res)⟩
theorem setA_all : ∀ (vs A old : List Value), old.length = vs.length → setA (A ++ old).toArray A.length vs = (A ++ vs).toArray
  | [], A, old, h => by
    have : old = [] := List.eq_nil_of_length_eq_zero (by simpa using h)
    subst this
    rfl
  | v :: r, A, [], h => by simp at h
  | v :: r, A, o :: old, h => by
    unfold setA
    have e : (A ++ o :: old).toArray.setIfInBounds A.length v = ((A ++ [v]) ++ old).toArray := by
      simp
    rw [e]
    have := setA_all r (A ++ [v]) old (by simpa using h)
    rw [List.length_append, List.length_singleton] at this
    rw [this]
    simp
/-- The temporary is another. -/
theorem PopW.temp (h : PopW K ti lo hb lb w B4 B7 tv z v puts x N W) (h1 : B7 ≠ hb) (h2 : B7 ≠ lb) (h3 : B7 ≠ B4) (h4 : w.heap.size < B7) (y : X × Int) : PopW K ti lo hb lb w B4 B7 tv z v puts y N (setC W B7 0 (encT K y)) := by
  have t3 := setC_turned (encT K y) W B7 0
  have hb := setC_block (encT K y) 0 h.tmp
  have e : setA (encT K x).toArray 0 (encT K y) = (encT K y).toArray := setA_all (encT K y) [] (encT K x) (by rw [encT_len, encT_len])
  rw [e] at hb
  exact ⟨h.frame.transG t3 (fun _ _ e => e) (fun i hi e => by omega), h.mem.turned t3 (fun e => h1 e.symm) (fun e => h2 e.symm), hb, t3.old h.least (fun e => h3 e.symm), t3.old h.res (by omega)⟩
/-- Something is stored in the list. -/
theorem PopW.stored (h : PopW K ti lo hb lb w B4 B7 tv z v puts x N W) (h2 : B7 ≠ lb) (h3 : B4 ≠ lb) (h4 : lb < w.heap.size) {i : Nat} (hi : i < N.length) (y : X × Int) : PopW K ti lo hb lb w B4 B7 tv z v puts x (N.set i y) (setC W lb (i * (K.sz + 1)) (encT K y)) := by
  obtain ⟨hm, ht⟩ := h.mem.stored hi y
  exact ⟨h.frame.transG ht (fun _ _ e => e) (fun _ _ e => .inr e), hm, ht.old h.tmp h2, ht.old h.least h3, ht.old h.res (by omega)⟩
end
/-- What Pop leaves. -/
def PopPost (K : Kd X) (z : X) (kf : Ord X) (lo hb lb : Nat) (w : World) (row : List X) (puts : Int) (e : Ending) (w' : World) : Prop :=
  e = .returned (.tuple #[.agg (K.enc (topV z kf row)).toArray, .bool (decide (row.length ≠ 0))]) ∧ HIs K kf lo hb lb w' (row.eraseIdx (first kf row)) puts ∧ Turned (fun k => k = hb ∨ k = lb) w w'

/-- What a round keeps: the heap, and the variable that leads to it; and a further block. -/
structure Keep4 (hb lb bx nx : Nat) (A B : World) : Prop where
  size : A.heap.size ≤ B.heap.size
  box : B.heap[hb]? = A.heap[hb]?
  row : B.heap[lb]? = A.heap[lb]?
  ptr : B.heap[bx]? = A.heap[bx]?
  far : B.heap[nx]? = A.heap[nx]?
theorem Keep4.trans {bx nx : Nat} {A B C : World} (h : Keep4 hb lb bx nx A B) (k : Keep4 hb lb bx nx B C) : Keep4 hb lb bx nx A C :=
  ⟨Nat.le_trans h.size k.size, k.box.trans h.box, k.row.trans h.row, k.ptr.trans h.ptr, k.far.trans h.far⟩
theorem HMem.keep {bx nx : Nat} {A B : World} (h : HMem K lo hb lb A v L puts) (k : Keep4 hb lb bx nx A B) : HMem K lo hb lb B v L puts := by
  refine ⟨k.box.trans h.box, ⟨h.own.1, ?_⟩, h.row, h.low, Nat.lt_of_lt_of_le h.lt k.size, h.real⟩
  rcases h.shape with ⟨rfl, rfl⟩ | ⟨cap, cur, rfl, h1, h2, h3, h4, h5, h6, _⟩
  · exact .inl ⟨rfl, rfl⟩
  · exact .inr ⟨lb, cap, cur, rfl, h1, k.row.trans h2, h3, h4, h5, h6⟩
theorem HIs.keep {bx nx : Nat} {A B : World} {row : List X} (h : HIs K kf lo hb lb A row puts) (k : Keep4 hb lb bx nx A B) : HIs K kf lo hb lb B row puts := by
  obtain ⟨v, L, hm, hh⟩ := h
  exact ⟨v, L, hm.keep k, hh⟩
/-- How many there are. -/
def hlen (hb : Nat) (w : World) : Nat := match w.heap[hb]? with
  | some (Obj.cells cs _ _) => (match cs[1]? with | some (Value.slice _ n _) => n | _ => 0)
  | _ => 0
theorem HIs.hlen {A : World} {row : List X} (h : HIs K kf lo hb lb A row puts) : Hg.hlen hb A = row.length := by
  obtain ⟨v, L, hm, hh⟩ := h
  unfold Hg.hlen
  rw [hm.box]
  rcases hm.shape with ⟨rfl, rfl⟩ | ⟨cap, cur, rfl, _⟩
  · have := hh.length; simpa using this
  · have := hh.length; simpa using this
def DrainS (K : Kd X) (kf : Ord X) (lo hb lb : Nat) (row : List X) (puts : Int) (xs : List X) (B : World) : Prop := xs = srt kf row ∧ HIs K kf lo hb lb B [] puts
def DrainP (K : Kd X) (kf : Ord X) (lo hb lb : Nat) (row : List X) (puts : Int) (xs : List X) (B : World) : Prop := ∃ k, xs = outs kf k row ∧ 0 < k ∧ k ≤ row.length ∧ HIs K kf lo hb lb B (left kf k row) puts
end
end Hg
end Go.Proofs.YtjcmeacgfflfmaaGreat

namespace Go.Proofs.YtjcmeacgfflfmaaGreat.Hg
open Go.RowKit Go.Shelf Go.Proofs.YtjcmeacgfflfmaaGreat.Md

theorem boxed_turned' {R : Nat → Prop} {A B : World} {b : Nat} {t : TypeId} {v : Value} (h : Boxed A b t v) (ht : Turned R A B) (hb : ¬ R b) : Boxed B b t v := ht.old h hb
theorem ownsRow_slice' {w : World} {base : Nat} {e : TypeId} {size : Nat} {v : Value} {n : Nat} {xs : List Value} (h : w.ownsRow base e size v n xs) : ∃ a cap, v = .slice a n cap := by
  rcases h.2 with ⟨rfl, rfl⟩ | ⟨g, cap, cur, rfl, _⟩
  · exact ⟨none, 0, rfl⟩
  · exact ⟨_, cap, rfl⟩
theorem owns_grown' {A B : World} {base : Nat} {e : TypeId} {size : Nat} {v : Value} {n : Nat} {xs : List Value} {row : Option Nat} (h : A.ownsRow base e size v n xs) (hg : A.grownBy B row) (hr : ∀ r, row = some r → ∃ o : Obj, A.heap[r]? = some o ∧ o.isCells = false) : B.ownsRow base e size v n xs := by
  refine h.kept hg ?_
  rcases h.2 with ⟨rfl, _⟩ | ⟨g, cap, cur, rfl, _, hgb, _⟩
  · exact .inl rfl
  · refine .inr fun e' => ?_
    obtain ⟨o, ho, hc⟩ := hr g (by simpa [Value.ownBlock] using e'.symm)
    rw [hgb] at ho; cases ho; cases hc
theorem owns_block' {w : World} {base : Nat} {e : TypeId} {size : Nat} {v : Value} {n : Nat} {xs : List Value} (h : w.ownsRow base e size v n xs) {g : Nat} (hg : v.ownBlock = some g) : base ≤ g ∧ ∃ cur, w.heap[g]? = some (.cells cur e (0, 0)) := by
  rcases h.2 with ⟨rfl, _⟩ | ⟨g', cap, cur, rfl, hb, hgb, _⟩
  · simp [Value.ownBlock] at hg
  · obtain rfl : g' = g := by simpa [Value.ownBlock] using hg
    exact ⟨hb, cur, hgb⟩
section
variable {X : Type} [Inhabited X] {K : Kd X} {kf : Ord X} {lo hb lb : Nat} {ti ts : TypeId}
theorem HIs.put {A : World} {row : List X} {puts : Int} (h : HIs K kf lo hb lb A row puts) {l : Nat} {o : Obj} (hl : A.heap[l]? = some o) (h1 : l ≠ hb) (h2 : l ≠ lb) (o' : Obj) : HIs K kf lo hb lb (A.putObj l o') row puts :=
  h.turned (Turned.of_grown (grownBy_putObj' A l o')) (fun e => h1 (by cases e; rfl)) (fun e => h2 (by cases e; rfl))
/-- What has come lies in a slice of its own, made ahead. -/
structure SrI (K : Kd X) (ti ts : TypeId) (w : World) (bs B5 : Nat) (pre : List X) (W : World) : Prop where
  box : ∃ v, Boxed W B5 ts v ∧ W.ownsRow bs ti K.sz v pre.length (pre.flatMap K.enc)
  below : Below w.heap.size w W
theorem SrI.own {w : World} {bs B5 hi : Nat} (hw : w.heap.size ≤ hi) : OwnFrom hi (fun pre W => SrI K ti ts w bs B5 pre W) := by
  intro pre A B row h hg hr
  obtain ⟨⟨v, h1, h2⟩, h3⟩ := h
  exact ⟨⟨v, boxed_kept h1 hg (fun r e => (hr r e).2), owns_grown' h2 hg (fun r e => (hr r e).2)⟩, h3.grown hg h3.size (fun r e => by have := (hr r e).1; omega)⟩
theorem SrI.turned {w : World} {bs B5 : Nat} {pre : List X} {A B : World} (h : SrI K ti ts w bs B5 pre A) (ht : Turned (fun k => k = hb ∨ k = lb) A B) (h1 : hb < bs) (h2 : lb < bs) (h3 : B5 ≠ hb) (h4 : B5 ≠ lb) (h5 : w.heap.size ≤ hb) (h6 : w.heap.size ≤ lb) : SrI K ti ts w bs B5 pre B := by
  obtain ⟨⟨v, k1, k2⟩, k3⟩ := h
  refine ⟨⟨v, boxed_turned' k1 ht (fun e => e.elim h3 h4), ht.owns k2 (fun g hg e => ?_)⟩, k3.trans (ht.below (fun k hk e => by rcases e with e | e <;> omega) k3.size)⟩
  have := (owns_block' k2 hg).1
  rcases e with e | e <;> omega
theorem SrI.new {w : World} {bs B5 : Nat} {pre : List X} {A : World} (h : SrI K ti ts w bs B5 pre A) (o : Obj) : SrI K ti ts w bs B5 pre (A.alloc o) := by
  obtain ⟨⟨v, k1, k2⟩, k3⟩ := h
  exact ⟨⟨v, k1.alloc o, k2.alloc o⟩, k3.alloc k3.size o⟩
theorem SrI.appended {w : World} {bs B5 : Nat} {pre : List X} {x : X} {W w1 : World} {v v' : Value} {tmp : Obj} (hts : ts ≠ ti)
    (hv : Boxed W B5 ts v) (h0 : W.ownsRow bs ti K.sz v pre.length (pre.flatMap K.enc)) (hf : Below w.heap.size w W) (hB : w.heap.size ≤ B5) (hbs : w.heap.size ≤ bs)
    (hown : w1.ownsRow bs ti K.sz v' (pre.length + 1) (pre.flatMap K.enc ++ K.enc x)) (hgrow : (W.alloc tmp).grownBy w1 v.ownBlock) :
    Boxed w1 B5 ts v ∧ SrI K ti ts w bs B5 (pre ++ [x]) (w1.setCell ⟨B5, 0, none⟩ v') ∧ KeepsOthers W (w1.setCell ⟨B5, 0, none⟩ v') ∧ W.heap.size ≤ (w1.setCell ⟨B5, 0, none⟩ v').heap.size ∧ (∀ k, k < W.heap.size → k ≠ B5 → (k < bs ∨ ∀ cur, W.heap[k]? ≠ some (.cells cur ti (0, 0))) → (w1.setCell ⟨B5, 0, none⟩ v').heap[k]? = W.heap[k]?) := by
  have hne : ∀ j, (j < bs ∨ ∀ cur, W.heap[j]? ≠ some (.cells cur ti (0, 0))) → some j ≠ v.ownBlock := fun j hj e => by
    obtain ⟨hb, cur, hc⟩ := owns_block' h0 e.symm
    rcases hj with hj | hj
    · omega
    · exact hj cur hc
  have hB5 : ∀ cur, W.heap[B5]? ≠ some (.cells cur ti (0, 0)) := fun cur e => by
    rw [show W.heap[B5]? = _ from hv] at e
    simp [hts] at e
  have hb1 : Boxed w1 B5 ts v := (hv.alloc tmp).kept hgrow (hne _ (.inr hB5))
  have hset := grownBy_setCell' w1 B5 v'
  have hown2 : (w1.setCell ⟨B5, 0, none⟩ v').ownsRow bs ti K.sz v' (pre.length + 1) (pre.flatMap K.enc ++ K.enc x) := by
    refine hown.kept hset ?_
    rcases hown.2 with ⟨rfl, _⟩ | ⟨g, cap, cur, rfl, hg, hgb, _⟩
    · exact .inl rfl
    · refine .inr fun e => ?_
      have : g = B5 := by simpa [Value.ownBlock] using e
      subst this
      rw [show w1.heap[g]? = _ from hb1] at hgb
      simp [hts] at hgb
  have hsz : W.heap.size ≤ (w1.setCell ⟨B5, 0, none⟩ v').heap.size := by
    have h1 := hgrow.size
    have h2 := hset.size
    simp at h1
    omega
  refine ⟨hb1, ⟨⟨v', hb1.set v', by rw [List.length_append, List.length_singleton, List.flatMap_append, List.flatMap_cons, List.flatMap_nil, List.append_nil]; exact hown2⟩, ?_⟩, ?_, hsz, ?_⟩
  · exact ((hf.alloc hf.size tmp).grown hgrow (by have := hf.size; simp; omega) (fun g e => by have := (owns_block' h0 e).1; omega)).setCell (p := ⟨B5, 0, none⟩) hB v'
  · refine ((KeepsOthers.alloc W tmp).trans (KeepsOthers.of_grownBy hgrow fun j o ej hj => ?_)).trans (KeepsOthers.setCell _ _ _)
    obtain ⟨_, cur, hc⟩ := owns_block' (h0.alloc tmp) ej
    rw [hj] at hc
    cases hc; rfl
  · intro k hk h1 h2
    have e1 := hset.block k (by have := hgrow.size; simp at this; omega) (fun e => h1 (by cases e; rfl))
    have e2 := hgrow.block k (by simp; omega) (hne k h2)
    exact e1.trans (e2.trans (Below.heap_alloc W tmp k hk))
/-- One element's cells. -/
theorem one_at (x : X) {W : World} {b : Nat} {t : TypeId} (h : W.heap[b]? = some (.cells (K.enc x).toArray t (0, 0))) : ∀ j u, (K.enc x)[j]? = some u → W.cell? ((⟨b, 0, none⟩ : Addr).add j) = some u := by
  intro j u hu
  rw [addr_add, Nat.zero_add]
  exact heap_cell h (by rw [List.getElem?_toArray]; exact hu)
theorem own_row {fit : X → Prop} {base : Nat} {w : World} {v : Value} {L : List X} (h : w.ownsRow base ti K.sz v L.length (L.flatMap K.enc)) (hm : L.length ≤ maxLen) (hf : ∀ x ∈ L, fit x) : ∃ a b c, v = .slice a L.length c ∧ OwnR K.enc fit K.sz ti base w a b L := by
  by_cases h0 : L.length = 0
  · obtain rfl := List.eq_nil_of_length_eq_zero h0
    obtain ⟨a, c, rfl⟩ := ownsRow_slice' h
    exact ⟨a, 0, c, rfl, .inl rfl, hm, hf⟩
  · obtain ⟨g, c, rfl, hb, hr⟩ := rowc_owned (enc := K.enc) K.hsz h rfl (by omega)
    exact ⟨_, g, c, rfl, .inr ⟨rfl, hb, hr⟩, hm, hf⟩
theorem top_mem {row : List X} (h : row.length ≠ 0) : top kf row ∈ row := by
  unfold top
  have h1 := first_lt (kf := kf) h
  rw [List.getD_eq_getElem?_getD, List.getElem?_eq_getElem h1]
  exact List.getElem_mem h1
theorem outs_mem : ∀ (k : Nat) (row : List X) (x : X), x ∈ outs kf k row → x ∈ row
  | 0, row, x, h => by simp [outs_zero] at h
  | k + 1, row, x, h => by
    by_cases h0 : row.length = 0
    · obtain rfl := nil_of h0
      rw [outs_nil] at h
      exact h
    · rw [outs_succ k row h0] at h
      rcases List.mem_cons.1 h with rfl | h
      · exact top_mem h0
      · exact List.mem_of_mem_eraseIdx (outs_mem k _ x h)
theorem srt_mem {row : List X} {x : X} (h : x ∈ srt kf row) : x ∈ row := outs_mem _ _ _ h
theorem top_rest (row : List X) (h : row.length ≠ 0) : (top kf row :: rest kf row).Perm row := by
  have h1 := first_lt (kf := kf) h
  have e : top kf row = row[first kf row] := by
    unfold top
    rw [List.getD_eq_getElem?_getD, List.getElem?_eq_getElem h1]
    rfl
  rw [e]
  unfold rest
  clear e
  generalize first kf row = j at *
  clear h
  induction row generalizing j with
  | nil => simp at h1
  | cons a r ih =>
    cases j with
    | zero => simp
    | succ j =>
      simp only [List.getElem_cons_succ, List.eraseIdx_cons_succ]
      exact (List.Perm.swap _ _ _).trans ((ih j (by simpa using h1)).cons a)
theorem outs_perm : ∀ (k : Nat) (row : List X), row.length ≤ k → (outs kf k row).Perm row
  | 0, row, h => by
    obtain rfl := nil_of (Nat.le_zero.1 h)
    exact List.Perm.refl _
  | k + 1, row, h => by
    by_cases h0 : row.length = 0
    · obtain rfl := nil_of h0
      rw [outs_nil]
    · rw [outs_succ k row h0]
      exact ((outs_perm k _ (by rw [rest_length h0]; omega)).cons _).trans (top_rest row h0)
theorem srt_perm (row : List X) : (srt kf row).Perm row := outs_perm _ _ (Nat.le_refl _)
end
end Go.Proofs.YtjcmeacgfflfmaaGreat.Hg
