/- Plain: parts with their numbers turned, and two that are made one. -/
import Derived.Test.YtdbhnkccgbofhaaZm
import Derived.Test.YtdbhnkccgbofhaaGbr
set_option linter.unusedVariables false
set_option linter.unusedSectionVars false
namespace Go.Proofs.Ytdbhnkccgbofhaa
open Go.RowKit Rk

theorem getD_map {ms : List Int} (f : Int → Int) {a : Nat} (h : a < ms.length) : (ms.map f).getD a 0 = f (ms.getD a 0) := by simp [List.getD, h]
def OnIx (n : Nat) (D : List Edg) : Prop := ∀ x ∈ D, ∃ a b : Nat, a < n ∧ b < n ∧ x.1 = (a : Int) ∧ x.2.1 = (b : Int) ∧ 0 ≤ x.2.2
theorem cuS_map {ms : List Int} {f : Int → Int} (hf : ∀ p q, f p = f q ↔ p = q) : ∀ {D : List Edg}, OnIx ms.length D → cuS (ms.map f) D = cuS ms D
  | [], _ => rfl
  | x :: D, h => by
    obtain ⟨a, b, h1, h2, h3, h4, _⟩ := h x (List.mem_cons_self ..)
    have ih := cuS_map hf (D := D) (fun y hy => h y (List.mem_cons_of_mem _ hy))
    have e : cu1 (ms.map f) x = cu1 ms x := by
      unfold cu1
      rw [h3, h4, Int.toNat_natCast, Int.toNat_natCast, getD_map f h1, getD_map f h2]
      by_cases e : ms.getD a 0 = ms.getD b 0
      · rw [if_pos e, if_pos ((hf _ _).2 e)]
      · rw [if_neg e, if_neg (fun e2 => e ((hf _ _).1 e2))]
    show ((x :: D).map (cu1 (ms.map f))).sum = ((x :: D).map (cu1 ms)).sum
    rw [List.map_cons, List.map_cons, List.sum_cons, List.sum_cons, e]
    show _ + cuS (ms.map f) D = _ + cuS ms D
    rw [ih]
theorem cuS_map_le {ms : List Int} (f : Int → Int) : ∀ {D : List Edg}, OnIx ms.length D → cuS (ms.map f) D ≤ cuS ms D
  | [], _ => Int.le_refl _
  | x :: D, h => by
    obtain ⟨a, b, h1, h2, h3, h4, h5⟩ := h x (List.mem_cons_self ..)
    have ih := cuS_map_le f (D := D) (fun y hy => h y (List.mem_cons_of_mem _ hy))
    have e : cu1 (ms.map f) x ≤ cu1 ms x := by
      unfold cu1
      rw [h3, h4, Int.toNat_natCast, Int.toNat_natCast, getD_map f h1, getD_map f h2]
      by_cases e : ms.getD a 0 = ms.getD b 0
      · rw [if_pos e, if_pos (by rw [e])]; exact Int.le_refl _
      · rw [if_neg e]; split <;> omega
    have e1 : cuS (ms.map f) (x :: D) = cu1 (ms.map f) x + cuS (ms.map f) D := by simp [cuS]
    have e2 : cuS ms (x :: D) = cu1 ms x + cuS ms D := by simp [cuS]
    omega
theorem edges_onIx {n : Nat} {F : Nat → Nat → Int} (h : Tab n F) : OnIx n (edgesD n F) := fun x hx => by
  obtain ⟨a, b, h1, h2, _, e, _⟩ := mem_upTo _ hx
  subst e
  exact ⟨a, b, h1, h2, rfl, rfl, h.lo a b⟩
theorem wtsT_turned {ws ms : List Int} {k : Nat} (hl : ms.length = ws.length) (hp : ∀ p ∈ ms, 0 ≤ p ∧ p < (k : Int)) : ∀ j, j ≤ ws.length → ∀ p : Nat, p < k → wtsT ws (ms.map (fun p => (k : Int) - 1 - p)) j (k - 1 - p) = wtsT ws ms j p
  | 0, _, p, _ => rfl
  | j + 1, hj, p, hpk => by
    have ih := wtsT_turned hl hp j (by omega)
    have hjm : j < ms.length := by omega
    have h4 := hp (ms.getD j 0) (by rw [List.getD_eq_getElem?_getD, List.getElem?_eq_getElem hjm]; exact List.getElem_mem _)
    simp only [wtsT]
    rw [getD_map _ hjm]
    obtain ⟨q, hq⟩ : ∃ q : Nat, ms.getD j 0 = (q : Int) := ⟨(ms.getD j 0).toNat, by omega⟩
    rw [hq] at h4 ⊢
    have e : ((k : Int) - 1 - (q : Int)).toNat = k - 1 - q := by omega
    rw [e, Int.toNat_natCast, ih q (by omega)]
    unfold upd
    by_cases e2 : p = q
    · rw [if_pos e2, if_pos (by omega)]
    · rw [if_neg e2, if_neg (by omega), ih p hpk]
theorem overs_iff {f : Nat → Int} {n : Nat} {k : Int} : overs f n k = true ↔ ∃ p, p < n ∧ k < f p := by
  unfold overs
  rw [List.any_eq_true]
  exact ⟨fun ⟨p, h1, h2⟩ => ⟨p, List.mem_range.1 h1, of_decide_eq_true h2⟩, fun ⟨p, h1, h2⟩ => ⟨p, List.mem_range.2 h1, decide_eq_true h2⟩⟩
theorem overs_turned {f g : Nat → Int} {n : Nat} {k : Int} (h : ∀ p, p < n → g (n - 1 - p) = f p) : overs g n k = overs f n k := by
  rw [Bool.eq_iff_iff, overs_iff, overs_iff]
  constructor
  · rintro ⟨p, h1, h2⟩
    refine ⟨n - 1 - p, by omega, ?_⟩
    rw [← h _ (by omega), show n - 1 - (n - 1 - p) = p by omega]; exact h2
  · rintro ⟨p, h1, h2⟩
    exact ⟨n - 1 - p, by omega, by rw [h p h1]; exact h2⟩
theorem turned_right {n : Nat} {ms : List Int} {k : Int} (h : rightP n ms k = true) : rightP n (ms.map (fun p => k - 1 - p)) k = true := by
  obtain ⟨h2, h3, h4⟩ := rightP_t h
  refine rightP_mk (by rw [List.length_map]; exact h2) h3.1 h3.2 fun p hp => ?_
  obtain ⟨q, hq, rfl⟩ := List.mem_map.1 hp
  have := h4 q hq
  omega
theorem half_right {n : Nat} {ms : List Int} {k : Int} (h : rightP n ms k = true) : rightP n (ms.map (fun p => p / 2)) k = true := by
  obtain ⟨h2, h3, h4⟩ := rightP_t h
  refine rightP_mk (by rw [List.length_map]; exact h2) h3.1 h3.2 fun p hp => ?_
  obtain ⟨q, hq, rfl⟩ := List.mem_map.1 hp
  have := h4 q hq
  omega
theorem turned_fits {ws ms : List Int} {k : Nat} (h : rightP ws.length ms (k : Int) = true) : fitsF ws (ms.map (fun p => (k : Int) - 1 - p)) (k : Int) = fitsF ws ms (k : Int) := by
  obtain ⟨h2, h3, h4⟩ := rightP_t h
  unfold fitsF
  rw [turned_right h, h, Int.toNat_natCast, overs_turned (fun p hp => wtsT_turned h2 h4 _ (Nat.le_refl _) p hp)]
/-- Two rows of numbers that a loop gathers. -/
structure TwR (w0 : World) (B0 : Nat) (lt lo : List Int) (v u : Value) (bt bo : Option Nat) (W : World) : Prop where
  t : GB W B0 3 1 v lt.length (L09.ints lt) bt
  o : GB W B0 3 1 u lo.length (L09.ints lo) bo
  ne : ∀ g, bt = some g → bo ≠ some g
  below : Below B0 w0 W
section
variable {w0 W W' w5 : World} {B0 : Nat} {lt lo : List Int} {v u : Value} {bt bo : Option Nat}
theorem TwR.on (h : TwR w0 B0 lt lo v u bt bo W) (hb : Below W.heap.size W W') (hB : B0 ≤ W.heap.size) : TwR w0 B0 lt lo v u bt bo W' := ⟨h.t.below hb, h.o.below hb, h.ne, h.below.trans (hb.mono hB)⟩
theorem TwR.first (h : TwR w0 B0 lt lo v u bt bo W) (hB : B0 ≤ W.heap.size) {x : Int} {g cap : Nat} {row : Option Nat} (h5 : GB w5 B0 3 1 (.slice (some ⟨g, 0, none⟩) (lt.length + 1) cap) (lt.length + 1) (L09.ints lt ++ [.int .i64 x]) (some g)) (hg : W.grownBy w5 row) (hr : row = none ∨ row = bt) (hw : bt = some g ∨ W.heap.size ≤ g) :
    TwR w0 B0 (lt ++ [x]) lo (.slice (some ⟨g, 0, none⟩) (lt.length + 1) cap) u (some g) bo w5 := by
  refine ⟨by rw [List.length_append, L09.ints_snoc]; exact h5, h.o.kept hg (fun g' e er => ?_), fun g' e er => ?_, h.below.grown hg hB (fun k e => ?_)⟩
  · rcases hr with hr | hr
    · rw [hr] at er; cases er
    · rw [hr] at er; exact h.ne g' er e
  · cases e
    rcases hw with hw | hw
    · exact h.ne g hw er
    · have := (h.o.lt g er).2.1; omega
  · rcases hr with hr | hr
    · rw [hr] at e; cases e
    · rw [hr] at e; exact (h.t.lt k e).1
theorem TwR.second (h : TwR w0 B0 lt lo v u bt bo W) (hB : B0 ≤ W.heap.size) {x : Int} {g cap : Nat} {row : Option Nat} (h5 : GB w5 B0 3 1 (.slice (some ⟨g, 0, none⟩) (lo.length + 1) cap) (lo.length + 1) (L09.ints lo ++ [.int .i64 x]) (some g)) (hg : W.grownBy w5 row) (hr : row = none ∨ row = bo) (hw : bo = some g ∨ W.heap.size ≤ g) :
    TwR w0 B0 lt (lo ++ [x]) v (.slice (some ⟨g, 0, none⟩) (lo.length + 1) cap) bt (some g) w5 := by
  refine ⟨h.t.kept hg (fun g' e er => ?_), by rw [List.length_append, L09.ints_snoc]; exact h5, fun g' e er => ?_, h.below.grown hg hB (fun k e => ?_)⟩
  · rcases hr with hr | hr
    · rw [hr] at er; cases er
    · rw [hr] at er; exact h.ne g' e er
  · cases er
    rcases hw with hw | hw
    · exact h.ne g e hw
    · have := (h.t.lt g e).2.1; omega
  · rcases hr with hr | hr
    · rw [hr] at e; cases e
    · rw [hr] at e; exact (h.o.lt k e).1
end
end Go.Proofs.Ytdbhnkccgbofhaa
