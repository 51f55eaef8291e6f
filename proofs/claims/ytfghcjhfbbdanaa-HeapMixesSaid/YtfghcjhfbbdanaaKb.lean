/- A heap as a caller sees it: what each call leaves of the rest. -/
import Derived.Test.YtfghcjhfbbdanaaJs
set_option linter.unusedVariables false
namespace Go.Proofs.Ytfghcjhfbbdanaa
open Go.RowKit

/-- A heap that a call has made: its block hb. -/
def HC (K : Nat) (kf : Int × Int → Int) (hb : Nat) (W : World) (row : List (Int × Int)) (puts : Int) : Prop := ∃ lb, hb ≤ lb ∧ HIs K kf hb hb lb W row puts
/-- Is an object no part of a heap? -/
def Foreign (o : Obj) : Prop := (∀ cs fr, o ≠ .cells cs 48 fr) ∧ ∀ cs fr, o ≠ .cells cs 50 fr
/-- What is below hb, and what is no part of a heap, stays. -/
structure Spared (hb : Nat) (W W' : World) : Prop where
  below : Below hb W W'
  other : ∀ (k : Nat) (o : Obj), W.heap[k]? = some o → Foreign o → W'.heap[k]? = some o
theorem Spared.refl (hb : Nat) (W : World) : Spared hb W W := ⟨Below.refl _ _, fun _ _ h _ => h⟩
theorem Spared.size {hb : Nat} {W W' : World} (h : Spared hb W W') : W.heap.size ≤ W'.heap.size := h.below.size
theorem Spared.trans {hb : Nat} {A B C : World} (h : Spared hb A B) (k : Spared hb B C) : Spared hb A C :=
  ⟨h.below.trans k.below, fun i o ho hf => k.other i o (h.other i o ho hf) hf⟩
theorem Spared.of_below {hb : Nat} {W W' : World} (h : Below W.heap.size W W') (hb' : hb ≤ W.heap.size) : Spared hb W W' :=
  ⟨h.mono hb', fun k o ho _ => heap_below ho h (heap_lt ho)⟩
theorem Spared.of_turned {K : Nat} {kf : Int × Int → Int} {hb lb : Nat} {W W' : World} {row : List (Int × Int)} {puts : Int} (h : HIs K kf hb hb lb W row puts) (hl : hb ≤ lb) (ht : Turned (fun k => k = hb ∨ k = lb) W W') : Spared hb W W' :=
  ⟨ht.below (fun k hk e => by rcases e with e | e <;> omega) (Nat.le_of_lt (hb_lb h).1), fun k o ho hf => ht.old ho (h.other ho hf.1 hf.2)⟩
theorem foreign_cells {cs : Array Value} {t : TypeId} {fr : Nat × Nat} (h1 : t ≠ 48) (h2 : t ≠ 50) : Foreign (.cells cs t fr) :=
  ⟨fun c f e => by cases e; exact h1 rfl, fun c f e => by cases e; exact h2 rfl⟩
theorem Spared.boxed {hb : Nat} {W W' : World} (h : Spared hb W W') {b : Nat} {t : TypeId} {cs : Array Value} (hv : W.heap[b]? = some (.cells cs t (0, 0))) (h1 : t ≠ 48) (h2 : t ≠ 50) : W'.heap[b]? = some (.cells cs t (0, 0)) :=
  h.other b _ hv (foreign_cells h1 h2)
theorem Spared.owns {hb : Nat} {W W' : World} (h : Spared hb W W') {base : Nat} {e : TypeId} {size : Nat} {v : Value} {n : Nat} {xs : List Value} (ho : W.ownsRow base e size v n xs) (h1 : e ≠ 48) (h2 : e ≠ 50) : W'.ownsRow base e size v n xs := by
  refine ⟨ho.1, ?_⟩
  rcases ho.2 with h3 | ⟨g, cap, cur, rfl, hb, hg, r⟩
  · exact .inl h3
  · exact .inr ⟨g, cap, cur, rfl, hb, h.boxed hg h1 h2, r⟩
theorem Spared.gath {hb : Nat} {W W' : World} (h : Spared hb W W') {base : Nat} {e : TypeId} {size : Nat} {v : Value} {n : Nat} {xs : List Value} (ho : Gath W base e size v n xs) (h1 : e ≠ 48) (h2 : e ≠ 50) : Gath W' base e size v n xs :=
  ho.imp id (fun g => h.owns g h1 h2)
theorem HC.below {K : Nat} {kf : Int × Int → Int} {hb : Nat} {W W' : World} {row : List (Int × Int)} {puts : Int} (h : HC K kf hb W row puts) (hB : Below W.heap.size W W') : HC K kf hb W' row puts := by
  obtain ⟨lb, h1, h2⟩ := h
  exact ⟨lb, h1, h2.below hB⟩
theorem HC.lt {K : Nat} {kf : Int × Int → Int} {hb : Nat} {W : World} {row : List (Int × Int)} {puts : Int} (h : HC K kf hb W row puts) : hb < W.heap.size := by
  obtain ⟨lb, h1, h2⟩ := h
  exact (hb_lb h2).1
/-- What turns nothing of the heap. -/
theorem HC.kept {K : Nat} {kf : Int × Int → Int} {hb : Nat} {W W' : World} {row : List (Int × Int)} {puts : Int} (h : HC K kf hb W row puts) {r : Option Nat} (hg : W.grownBy W' r) (hr : ∀ k, r = some k → ∃ o, W.heap[k]? = some o ∧ Foreign o) : HC K kf hb W' row puts := by
  obtain ⟨lb, h1, v, L, hm, hh⟩ := h
  have hne : ∀ k cs t, W.heap[k]? = some (.cells cs t (0, 0)) → (t = 48 ∨ t = 50) → some k ≠ r := by
    intro k cs t hk ht e
    obtain ⟨o, ho, hf⟩ := hr k e.symm
    rw [hk] at ho
    cases ho
    rcases ht with rfl | rfl
    · exact hf.1 _ _ rfl
    · exact hf.2 _ _ rfl
  refine ⟨lb, h1, v, L, ⟨heap_kept hm.box hg (hne _ _ _ hm.box (.inl rfl)), ⟨hm.own.1, ?_⟩, hm.row, hm.low, Nat.lt_of_lt_of_le hm.lt hg.size, hm.real⟩, hh⟩
  rcases hm.shape with ⟨rfl, rfl⟩ | ⟨cap, cur, rfl, k1, k2, k3, k4, k5, k6, _⟩
  · exact .inl ⟨rfl, rfl⟩
  · exact .inr ⟨lb, cap, cur, rfl, k1, heap_kept k2 hg (hne _ _ _ k2 (.inr rfl)), k3, k4, k5, k6⟩

theorem hc_new (K : Nat) (kf : Int × Int → Int) (w : World) :
    Calls Try.prog 10 #[.func (.func K) #[] #[]] w fun e w' => e = .returned (.pointer (some ⟨w.heap.size, 0, none⟩)) ∧ HC K kf w.heap.size w' [] 0 ∧ Below w.heap.size w w' :=
  (new_any K kf w).mono fun e w' ⟨h1, h2, h3⟩ => ⟨h1, ⟨_, Nat.le_refl _, h2⟩, h3⟩
theorem hc_push {K : Nat} {kf : Int × Int → Int} (HK : IsOrd K kf) {hb : Nat} {w : World} {row : List (Int × Int)} {puts : Int} (h : HC K kf hb w row puts) (x1 x2 : Int) (hs : row.length ≤ 100000) (hp0 : 0 ≤ puts) (hp1 : puts ≤ 1000000) :
    Calls Try.prog 11 #[.pointer (some ⟨hb, 0, none⟩), .agg #[.int .i64 x1, .int .i64 x2]] w fun e w' => e = .returned (.tuple #[]) ∧ HC K kf hb w' (row ++ [(x1, x2)]) (puts + 1) ∧ Spared hb w w' := by
  obtain ⟨lb, h1, h2⟩ := h
  refine (push_any HK h2 x1 x2 hs hp0 hp1 (Nat.le_of_lt (hb_lb h2).1)).mono ?_
  rintro e w' ⟨rfl, lb', h3, h4, h5⟩
  exact ⟨rfl, ⟨lb', by rcases h4 with h4 | h4; omega; have := (hb_lb h2).1; omega, h3⟩, Spared.of_turned h2 h1 h5⟩
theorem hc_pop {K : Nat} {kf : Int × Int → Int} (HK : IsOrd K kf) {hb : Nat} {w : World} {row : List (Int × Int)} {puts : Int} (h : HC K kf hb w row puts) (hs : row.length ≤ 100001) (h0 : row.length ≠ 0) :
    Calls Try.prog 13 #[.pointer (some ⟨hb, 0, none⟩)] w fun e w' => e = .returned (.tuple #[.agg #[.int .i64 (Hm.top kf row).1, .int .i64 (Hm.top kf row).2], .bool true]) ∧ HC K kf hb w' (Hm.rest kf row) puts ∧ Spared hb w w' := by
  obtain ⟨lb, h1, h2⟩ := h
  exact (pop_cons HK h2 hs h0).mono fun e w' ⟨e1, e2, e3⟩ => ⟨e1, ⟨lb, h1, e2⟩, Spared.of_turned h2 h1 e3⟩
theorem hc_pop0 {K : Nat} {kf : Int × Int → Int} (HK : IsOrd K kf) {hb : Nat} {w : World} {row : List (Int × Int)} {puts : Int} (h : HC K kf hb w row puts) (h0 : row.length = 0) :
    Calls Try.prog 13 #[.pointer (some ⟨hb, 0, none⟩)] w fun e w' => e = .returned (.tuple #[.agg #[.int .i64 0, .int .i64 0], .bool false]) ∧ HC K kf hb w' [] puts ∧ Spared hb w w' := by
  obtain ⟨lb, h1, h2⟩ := h
  exact (pop_nil HK h2 h0).mono fun e w' ⟨e1, e2, e3⟩ => ⟨e1, ⟨lb, h1, e2⟩, Spared.of_turned h2 h1 e3⟩
theorem hc_peek {K : Nat} {kf : Int × Int → Int} {hb : Nat} {w : World} {row : List (Int × Int)} {puts : Int} (h : HC K kf hb w row puts) (h0 : row.length ≠ 0) :
    Calls Try.prog 12 #[.pointer (some ⟨hb, 0, none⟩)] w fun e w' => e = .returned (.tuple #[.agg #[.int .i64 (Hm.top kf row).1, .int .i64 (Hm.top kf row).2], .bool true]) ∧ Below w.heap.size w w' := by
  obtain ⟨lb, h1, h2⟩ := h
  exact peek_cons h2 h0
theorem hc_peek0 {K : Nat} {kf : Int × Int → Int} {hb : Nat} {w : World} {row : List (Int × Int)} {puts : Int} (h : HC K kf hb w row puts) (h0 : row.length = 0) :
    Calls Try.prog 12 #[.pointer (some ⟨hb, 0, none⟩)] w fun e w' => e = .returned (.tuple #[.agg #[.int .i64 0, .int .i64 0], .bool false]) ∧ Below w.heap.size w w' := by
  obtain ⟨lb, h1, h2⟩ := h
  exact peek_nil h2 h0
theorem hc_len {K : Nat} {kf : Int × Int → Int} {hb : Nat} {w : World} {row : List (Int × Int)} {puts : Int} (h : HC K kf hb w row puts) :
    Calls Try.prog 14 #[.pointer (some ⟨hb, 0, none⟩)] w fun e w' => e = .returned (.int .i64 row.length) ∧ w = w' := by
  obtain ⟨lb, h1, h2⟩ := h
  exact len_any h2
def HTakePost (K : Nat) (kf : Int × Int → Int) (hb : Nat) (w : World) (row : List (Int × Int)) (puts : Int) (k : Nat) (e : Ending) (w' : World) : Prop :=
  ∃ v, e = .returned v ∧ Gath w' w.heap.size 26 2 v (Hm.outs kf k row).length (its (Hm.outs kf k row)) ∧ HC K kf hb w' (Hm.left kf k row) puts ∧ Spared hb w w'
theorem hc_take {K : Nat} {kf : Int × Int → Int} (HK : IsOrd K kf) {hb : Nat} {w : World} {row : List (Int × Int)} {puts : Int} (h : HC K kf hb w row puts) (hs : row.length ≤ 100001) (m : Int) :
    Calls Try.prog 17 #[.pointer (some ⟨hb, 0, none⟩), .int .i64 m] w (HTakePost K kf hb w row puts m.toNat) := by
  obtain ⟨lb, h1, h2⟩ := h
  refine (take_any HK h2 hs m).mono ?_
  rintro e w' ⟨v, e1, e2, e3, e4⟩
  exact ⟨v, e1, e2, ⟨lb, h1, e3⟩, Spared.of_turned h2 h1 e4⟩
end Go.Proofs.Ytfghcjhfbbdanaa
