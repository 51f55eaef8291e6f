/- The sides of a refine: what the program holds. -/
import Derived.Test.YtjpgkocffceeoaaZs
import Derived.Test.YtjpgkocffceeoaaGl
import Derived.Deep.Cut
import Derived.BigQuiet
import Derived.Deep.QuietTactic
import Derived.Test.YtjpgkocffceeoaaZl
import Derived.Test.YtjpgkocffceeoaaCi
import Derived.Test.YtjpgkocffceeoaaQd
import Derived.Test.YtjpgkocffceeoaaQc
import Derived.Deep.DeepCutAuto
import Derived.Test.YtjpgkocffceeoaaRu
set_option linter.unusedVariables false
set_option linter.unusedSectionVars false
namespace Go.Proofs.Ytjpgkocffceeoaa
open Go.RowKit Rk

theorem sumTo_put {k p : Nat} (f g : Nat → Int) (hp : p < k) (h : ∀ b, b < k → b ≠ p → g b = f b) : sumTo k g = sumTo k f + (g p - f p) := by
  have h1 := sumTo_one k p hp (fun b => g b - f b) (fun b hb hne => by have := h b hb hne; omega)
  rw [sumTo_sub] at h1
  omega
/-- What a thing's move gains. -/
def tG (n : Nat) (F : Nat → Nat → Int) (m : Nat → Int) (o : Nat) : Int := sumTo n (fun b => if m b = m o then - F o b else F o b)
/-- A thing goes to the other part. -/
def flipM (m : Nat → Int) (i : Nat) : Nat → Int := upd m i (1 - m i)
theorem flip_at (m : Nat → Int) (i : Nat) : flipM m i i = 1 - m i := by simp [flipM, upd]
theorem flip_ne (m : Nat → Int) {i b : Nat} (h : b ≠ i) : flipM m i b = m b := by simp [flipM, upd, h]
/-- Each is in one of two parts. -/
def twoM (n : Nat) (m : Nat → Int) : Prop := ∀ b, b < n → m b = 0 ∨ m b = 1
theorem twoM.flip {n : Nat} {m : Nat → Int} (h : twoM n m) {i : Nat} (hi : i < n) : twoM n (flipM m i) := fun b hb => by
  by_cases e : b = i
  · subst e; rw [flip_at]
    rcases h b hb with h1 | h1 <;> omega
  · rw [flip_ne m e]; exact h b hb
theorem tG_turn {n : Nat} {F : Nat → Nat → Int} (ht : Tab n F) {m : Nat → Int} (h2 : twoM n m) {i o : Nat} (hi : i < n) (ho : o < n) (hne : o ≠ i) :
    tG n F (flipM m i) o = tG n F m o + (if m i = m o then 2 * F i o else - (2 * F i o)) := by
  unfold tG
  rw [sumTo_put (p := i) (fun b => if m b = m o then - F o b else F o b) (fun b => if flipM m i b = flipM m i o then - F o b else F o b) hi (fun b hb hb2 => by
    show (if flipM m i b = flipM m i o then _ else _) = _
    rw [flip_ne m hb2, flip_ne m hne])]
  rw [flip_at, flip_ne m hne, ht.sym o i]
  rcases h2 i hi with e1 | e1 <;> rcases h2 o ho with e2 | e2 <;> rw [e1, e2] <;> simp <;> omega
theorem tG_back {n : Nat} {F : Nat → Nat → Int} (ht : Tab n F) {m : Nat → Int} (h2 : twoM n m) {i : Nat} (hi : i < n) :
    tG n F (flipM m i) i = - tG n F m i := by
  unfold tG
  rw [← sumTo_neg]
  refine sumTo_congr fun b hb => ?_
  by_cases e : b = i
  · subst e; rw [ht.diag]; simp
  · rw [flip_at, flip_ne m e]
    rcases h2 i hi with e1 | e1 <;> rcases h2 b hb with e2 | e2 <;> rw [e1, e2] <;> simp
theorem tG_bd {n : Nat} {F : Nat → Nat → Int} (ht : Tab n F) (m : Nat → Int) (o : Nat) : - (1099511627776 * (n : Int)) ≤ tG n F m o ∧ tG n F m o ≤ 1099511627776 * (n : Int) := by
  unfold tG
  have key : ∀ k : Nat, - (1099511627776 * (k : Int)) ≤ sumTo k (fun b => if m b = m o then - F o b else F o b) ∧ sumTo k (fun b => if m b = m o then - F o b else F o b) ≤ 1099511627776 * (k : Int) := fun k => by
    induction k with
    | zero => exact ⟨by simp [sumTo], by simp [sumTo]⟩
    | succ k ih =>
      have h1 := ht.lo o k
      have h2 := ht.hi o k
      have e : sumTo (k + 1) (fun b => if m b = m o then - F o b else F o b) = sumTo k (fun b => if m b = m o then - F o b else F o b) + (if m k = m o then - F o k else F o k) := rfl
      rw [e]
      split <;> constructor <;> omega
  exact key n
/-- What is asked, thing by thing. -/
def ask1 (m : Nat → Int) (o : Nat) (x : Int × Int) : Int := if m x.1.toNat = m o then - x.2 else x.2
def askS (m : Nat → Int) (o : Nat) (l : List (Int × Int)) : Int := (l.map (ask1 m o)).sum
theorem askS_snoc (m : Nat → Int) (o : Nat) (l : List (Int × Int)) (x : Int × Int) : askS m o (l ++ [x]) = askS m o l + ask1 m o x := by simp [askS]
theorem askS_bd (m : Nat → Int) (o : Nat) : ∀ l : List (Int × Int), (∀ x ∈ l, 0 ≤ x.2 ∧ x.2 ≤ 1099511627776) → - (1099511627776 * (l.length : Int)) ≤ askS m o l ∧ askS m o l ≤ 1099511627776 * (l.length : Int)
  | [], _ => by simp [askS]
  | x :: r, h => by
    have h1 := h x (List.mem_cons_self ..)
    have h2 := askS_bd m o r (fun y hy => h y (List.mem_cons_of_mem _ hy))
    have e : askS m o (x :: r) = ask1 m o x + askS m o r := by simp [askS]
    rw [e, List.length_cons]
    unfold ask1
    split <;> constructor <;> omega
theorem ask_row (n : Nat) {F : Nat → Nat → Int} (ht : Tab n F) (m : Nat → Int) (o : Nat) : askS m o (rowOf n (F o)) = tG n F m o := by
  unfold tG
  have key : ∀ k, askS m o (rowOf k (F o)) = sumTo k (fun b => if m b = m o then - F o b else F o b) := fun k => by
    induction k with
    | zero => rfl
    | succ k ih =>
      have e : sumTo (k + 1) (fun b => if m b = m o then - F o b else F o b) = sumTo k (fun b => if m b = m o then - F o b else F o b) + (if m k = m o then - F o k else F o k) := rfl
      rw [rowOf_succ, e]
      by_cases h0 : 0 < F o k
      · rw [if_pos h0, askS_snoc, ih]
        unfold ask1
        simp
      · have h1 := ht.lo o k
        have h2 : F o k = 0 := by omega
        rw [if_neg h0, List.append_nil, ih, h2]
        simp
  exact key n

/-- May a thing be moved: it wasn't yet, and the other part has room. -/
def mayM (ws : Nat → Int) (m : Nat → Int) (mv : Nat → Bool) (H b : Int → Int) (i : Nat) : Bool := !mv i && decide (H (1 - m i) + ws i ≤ b (1 - m i))
/-- The first of those that gain most. -/
def bestM (may : Nat → Bool) (G : Nat → Int) : Nat → Option Nat
  | 0 => none
  | k + 1 => if may k = true ∧ (∀ f, bestM may G k = some f → G f < G k) then some k else bestM may G k
theorem bestM_lt (may : Nat → Bool) (G : Nat → Int) : ∀ k f, bestM may G k = some f → f < k ∧ may f = true
  | 0, f, h => by simp [bestM] at h
  | k + 1, f, h => by
    unfold bestM at h
    split at h
    · rename_i h1; cases h; exact ⟨Nat.lt_succ_self _, h1.1⟩
    · obtain ⟨h1, h2⟩ := bestM_lt may G k f h
      exact ⟨by omega, h2⟩
theorem bestM_none (may : Nat → Bool) (G : Nat → Int) : ∀ k, bestM may G k = none → ∀ i, i < k → may i = false
  | 0, _, i, hi => by omega
  | k + 1, h, i, hi => by
    unfold bestM at h
    split at h
    · cases h
    · rename_i h1
      have hk : may k = false := by
        cases hm : may k with
        | false => rfl
        | true => exact absurd ⟨hm, fun f hf => by rw [h] at hf; cases hf⟩ h1
      by_cases e : i = k
      · subst e; exact hk
      · exact bestM_none may G k h i (by omega)
theorem bestM_congr {may may' : Nat → Bool} {G G' : Nat → Int} : ∀ k, (∀ i, i < k → may i = may' i) → (∀ i, i < k → may i = true → G i = G' i) → bestM may G k = bestM may' G' k
  | 0, _, _ => rfl
  | k + 1, h1, h2 => by
    have ih := bestM_congr k (fun i hi => h1 i (by omega)) (fun i hi => h2 i (by omega))
    unfold bestM
    rw [ih, h1 k (by omega)]
    by_cases hm : may' k = true
    · have hk := h2 k (by omega) (by rw [h1 k (by omega)]; exact hm)
      have : (∀ f, bestM may' G' k = some f → G f < G k) ↔ (∀ f, bestM may' G' k = some f → G' f < G' k) := by
        constructor <;> intro h f hf
        · obtain ⟨q1, q2⟩ := bestM_lt may' G' k f hf
          have := h f hf
          rwa [h2 f (by omega) (by rw [h1 f (by omega)]; exact q2), hk] at this
        · obtain ⟨q1, q2⟩ := bestM_lt may' G' k f hf
          rw [h2 f (by omega) (by rw [h1 f (by omega)]; exact q2), hk]
          exact h f hf
      simp only [this]
    · simp [hm]
/-- What each part weighs. -/
def hvM (n : Nat) (ws m : Nat → Int) (t : Int) : Int := sumTo n (fun b => if m b = t then ws b else 0)
/-- The moves of a pass, each with what it gains: so many at most. -/
def movesM (n : Nat) (F : Nat → Nat → Int) (ws : Nat → Int) (b : Int → Int) : Nat → (Nat → Int) → (Nat → Bool) → List (Nat × Int)
  | 0, _, _ => []
  | k + 1, m, mv => match bestM (mayM ws m mv (hvM n ws m) b) (tG n F m) n with
    | none => []
    | some i => (i, tG n F m i) :: movesM n F ws b k (flipM m i) (fun c => if c = i then true else mv c)
theorem hv_flip {n : Nat} {ws m : Nat → Int} (h2 : twoM n m) {i : Nat} (hi : i < n) : hvM n ws (flipM m i) (m i) = hvM n ws m (m i) - ws i ∧ hvM n ws (flipM m i) (1 - m i) = hvM n ws m (1 - m i) + ws i := by
  unfold hvM
  have hne : 1 - m i ≠ m i := by rcases h2 i hi with e | e <;> omega
  constructor
  · rw [sumTo_put (p := i) (fun b => if m b = m i then ws b else 0) (fun b => if flipM m i b = m i then ws b else 0) hi (fun b hb hb2 => by
      show (if flipM m i b = m i then _ else _) = _
      rw [flip_ne m hb2])]
    rw [flip_at, if_neg hne, if_pos rfl]; omega
  · rw [sumTo_put (p := i) (fun b => if m b = 1 - m i then ws b else 0) (fun b => if flipM m i b = 1 - m i then ws b else 0) hi (fun b hb hb2 => by
      show (if flipM m i b = 1 - m i then _ else _) = _
      rw [flip_ne m hb2])]
    rw [flip_at, if_pos rfl, if_neg (fun e => hne e.symm)]; omega
/-- All that may be moved are those that weren't: no more moves than things. -/
theorem movesM_new (n : Nat) (F : Nat → Nat → Int) (ws : Nat → Int) (b : Int → Int) : ∀ (k : Nat) (m : Nat → Int) (mv : Nat → Bool), ((movesM n F ws b k m mv).map (·.1)).Nodup ∧ ∀ x ∈ movesM n F ws b k m mv, x.1 < n ∧ mv x.1 = false
  | 0, m, mv => ⟨List.nodup_nil, fun x hx => by cases hx⟩
  | k + 1, m, mv => by
    unfold movesM
    split
    · exact ⟨List.nodup_nil, fun x hx => by cases hx⟩
    · rename_i i hi
      obtain ⟨h1, h2⟩ := bestM_lt _ _ _ _ hi
      have hmv : mv i = false := by
        unfold mayM at h2
        cases e : mv i with
        | false => rfl
        | true => rw [e] at h2; simp at h2
      obtain ⟨q1, q2⟩ := movesM_new n F ws b k (flipM m i) (fun c => if c = i then true else mv c)
      refine ⟨?_, fun x hx => ?_⟩
      · rw [List.map_cons, List.nodup_cons]
        refine ⟨fun hm => ?_, q1⟩
        obtain ⟨y, hy, hye⟩ := List.mem_map.1 hm
        have := (q2 y hy).2
        simp only at hye
        simp [hye] at this
      · rcases List.mem_cons.1 hx with rfl | hx
        · exact ⟨h1, hmv⟩
        · obtain ⟨r1, r2⟩ := q2 x hx
          refine ⟨r1, ?_⟩
          by_cases e : x.1 = i
          · simp [e] at r2
          · simpa [e] using r2
end Go.Proofs.Ytjpgkocffceeoaa

namespace Go.Proofs.Ytjpgkocffceeoaa
open Go.RowKit Go.Shelf Rk

/-- A block whose first values are known. -/
structure OwR (W : World) (b : Nat) (t : TypeId) (n : Nat) (f : Nat → Value) : Prop where
  row : n = 0 ∨ ∃ cs : Array Value, W.heap[b]? = some (.cells cs t (0, 0)) ∧ ∀ i, i < n → cs[i]? = some (f i)
section
variable {W W' : World} {b : Nat} {t : TypeId} {n : Nat} {f : Nat → Value}
theorem OwR.cell (h : OwR W b t n f) {i : Nat} (hi : i < n) : W.cell? ⟨b, i, none⟩ = some (f i) := by
  obtain ⟨cs, h1, h2⟩ := h.row.resolve_left (by omega)
  exact heap_cell h1 (h2 i hi)
theorem OwR.frozen (h : OwR W b t n f) (hn : 0 < n) (k : Nat) : W.frozen? ⟨b, k, none⟩ = false := by
  obtain ⟨cs, h1, h2⟩ := h.row.resolve_left (by omega)
  exact heap_frozen h1 k
theorem OwR.lt (h : OwR W b t n f) (hn : 0 < n) : b < W.heap.size := by
  obtain ⟨cs, h1, h2⟩ := h.row.resolve_left (by omega)
  exact heap_lt h1
theorem OwR.set (h : OwR W b t n f) {i : Nat} (hi : i < n) (v : Value) : OwR (W.setCell ⟨b, i, none⟩ v) b t n (fun c => if c = i then v else f c) := by
  obtain ⟨cs, h1, h2⟩ := h.row.resolve_left (by omega)
  refine ⟨.inr ⟨_, heap_set h1 i v, fun j hj => ?_⟩⟩
  by_cases e : j = i
  · subst e
    rw [if_pos rfl]
    have := (Array.getElem?_eq_some_iff.1 (h2 j hj)).1
    simp [this]
  · rw [if_neg e]
    simp only [Array.getElem?_setIfInBounds]
    rw [if_neg (fun h => e h.symm)]
    exact h2 j hj
theorem OwR.turned (h : OwR W b t n f) {R : Nat → Prop} (ht : Turned R W W') (hn : n = 0 ∨ ¬ R b) : OwR W' b t n f := by
  rcases h.row with e | ⟨cs, h1, h2⟩
  · exact ⟨.inl e⟩
  · rcases hn with e | e
    · exact ⟨.inl e⟩
    · exact ⟨.inr ⟨cs, ht.old h1 e, h2⟩⟩
theorem OwR.below (h : OwR W b t n f) {B : Nat} (hb : Below B W W') (hB : n = 0 ∨ b < B) : OwR W' b t n f := by
  rcases h.row with e | ⟨cs, h1, h2⟩
  · exact ⟨.inl e⟩
  · rcases hB with e | e
    · exact ⟨.inl e⟩
    · exact ⟨.inr ⟨cs, heap_below h1 hb e, h2⟩⟩
theorem OwR.congr {g : Nat → Value} (h : OwR W b t n f) (he : ∀ i, i < n → f i = g i) : OwR W b t n g := by
  rcases h.row with e | ⟨cs, h1, h2⟩
  · exact ⟨.inl e⟩
  · exact ⟨.inr ⟨cs, h1, fun i hi => by rw [← he i hi]; exact h2 i hi⟩⟩
end
/-- Where a pass lies. -/
structure PsV where
  wa : Option Addr
  wc : Nat
  wb : Nat
  na : Option Addr
  nc : Nat
  nb : Nat
  pa : Option Addr
  pc : Nat
  pb : Nat
  gb : Nat
  vb : Nat
def wsF (ws : List Int) (i : Nat) : Int := ws.getD i 0
/-- An iterator whose boxes lie below up. -/
def SeqU (W : World) (u : Value) (n₀ up : Nat) (D : List (Int × Int)) : Prop :=
  IsSeq W u n₀ D ∧ n₀ ≤ up ∧ ∀ g B1 B2, u = .func g #[] #[.pointer (some ⟨B1, 0, none⟩), .pointer (some ⟨B2, 0, none⟩)] → B1 < up ∧ B2 < up
theorem SeqU.below {W W' : World} {u : Value} {n₀ up : Nat} {D : List (Int × Int)} (h : SeqU W u n₀ up D) (hb : Below up W W') : SeqU W' u n₀ up D := by
  obtain ⟨⟨B1, B2, p, t, s, h1, h2, h3, h4, h5, h6, h7, h8⟩, hn, hu⟩ := h
  obtain ⟨u1, u2⟩ := hu _ _ _ h1
  exact ⟨⟨B1, B2, p, t, s, h1, heap_below h2 hb u1, heap_below h3 hb u2, h4.low (hb.mono hn), h5, h6, h7, Nat.le_trans h8 hb.size⟩, hn, hu⟩
/-- What a pass begins with, and keeps. -/
structure BgR (v : PsV) (n₀ up : Nat) (ws : List Int) (F : Nat → Nat → Int) (W : World) : Prop where
  wa : ws.length = 0 ∨ v.wa = some ⟨v.wb, 0, none⟩
  wts : OwR W v.wb 2 ws.length (fun i => .int .i64 (wsF ws i))
  wlt : ws.length = 0 ∨ v.wb < up
  na : ws.length = 0 ∨ v.na = some ⟨v.nb, 0, none⟩
  nlt : ws.length = 0 ∨ v.nb < up
  near : ∃ ne : Nat → Value, OwR W v.nb 86 ws.length ne ∧ ∀ a, a < ws.length → SeqU W (ne a) n₀ up (rowOf ws.length (F a))
theorem BgR.below {v : PsV} {n₀ up : Nat} {ws : List Int} {F : Nat → Nat → Int} {W W' : World} (h : BgR v n₀ up ws F W) (hb : Below up W W') : BgR v n₀ up ws F W' := by
  obtain ⟨ne, h1, h2⟩ := h.near
  exact ⟨h.wa, h.wts.below hb h.wlt, h.wlt, h.na, h.nlt, ne, h1.below hb h.nlt, fun a ha => (h2 a ha).below hb⟩
/-- What is known of the numbers. -/
structure PsN (ws : List Int) (F : Nat → Nat → Int) (m : Nat → Int) (mv : Nat → Bool) (G : Nat → Int) (H : Int → Int) : Prop where
  tab : Tab ws.length F
  small : ws.length ≤ 4096
  wts : ∀ x ∈ ws, 1 ≤ x ∧ x ≤ 1099511627776
  two : twoM ws.length m
  hv : ∀ t, t = 0 ∨ t = 1 → H t = hvM ws.length (wsF ws) m t
  gain : ∀ a, a < ws.length → ∃ c, G a = tG ws.length F m a + c ∧ (mv a = false → c = 0) ∧ - 18014398509481984 ≤ c ∧ c ≤ 18014398509481984
/-- A pass on its way. -/
structure PsR (v : PsV) (n₀ up o : Nat) (ws : List Int) (F : Nat → Nat → Int) (m : Nat → Int) (mv : Nat → Bool) (G : Nat → Int) (b H : Int → Int) (W : World) : Prop where
  box : W.heap[o]? = some (.cells #[.slice v.wa ws.length v.wc, .slice v.na ws.length v.nc, .slice v.pa ws.length v.pc, .int .i64 (b 0), .int .i64 (b 1), .int .i64 (H 0), .int .i64 (H 1), .slice (some ⟨v.gb, 0, none⟩) ws.length ws.length, .slice (some ⟨v.vb, 0, none⟩) ws.length ws.length] 116 (0, 0))
  bg : BgR v n₀ up ws F W
  pa : ws.length = 0 ∨ v.pa = some ⟨v.pb, 0, none⟩
  part : OwR W v.pb 3 ws.length (fun i => .int .i64 (m i))
  gain : OwR W v.gb 2 ws.length (fun i => .int .i64 (G i))
  moved : OwR W v.vb 4 ws.length (fun i => .bool (mv i))
  ups : up ≤ o ∧ up ≤ v.pb ∧ up ≤ v.gb ∧ up ≤ v.vb
  dis : o ≠ v.pb ∧ o ≠ v.gb ∧ o ≠ v.vb ∧ v.pb ≠ v.gb ∧ v.pb ≠ v.vb ∧ v.gb ≠ v.vb
  num : PsN ws F m mv G H
theorem PsR.heap {v : PsV} {n₀ up o : Nat} {ws : List Int} {F : Nat → Nat → Int} {m : Nat → Int} {mv : Nat → Bool} {G : Nat → Int} {b H : Int → Int} {W W' : World} (h : PsR v n₀ up o ws F m mv G b H W) {R : Nat → Prop} (ht : Turned R W W') (hu : ∀ k, R k → up ≤ k ∧ k ≠ o ∧ k ≠ v.pb ∧ k ≠ v.gb ∧ k ≠ v.vb) (hz : up ≤ W.heap.size) : PsR v n₀ up o ws F m mv G b H W' :=
  ⟨ht.old h.box (fun e => (hu _ e).2.1 rfl), h.bg.below ⟨ht.os, ht.tape, ht.output, ht.size, fun k hk => ht.block k (by omega) (fun e => by have := (hu _ e).1; omega)⟩, h.pa,
    h.part.turned ht (.inr fun e => (hu _ e).2.2.1 rfl), h.gain.turned ht (.inr fun e => (hu _ e).2.2.2.1 rfl), h.moved.turned ht (.inr fun e => (hu _ e).2.2.2.2 rfl), h.ups, h.dis, h.num⟩
/-- Nothing but draws. -/
def Still (w w' : World) : Prop := w'.os = w.os ∧ w'.tape = w.tape ∧ w'.output = w.output ∧ w'.heap = w.heap
theorem Still.refl (w : World) : Still w w := ⟨rfl, rfl, rfl, rfl⟩
theorem Still.trans {a b c : World} (h : Still a b) (k : Still b c) : Still a c := ⟨k.1.trans h.1, k.2.1.trans h.2.1, k.2.2.1.trans h.2.2.1, k.2.2.2.trans h.2.2.2⟩
theorem Still.cell {a b : World} (h : Still a b) (p : Addr) : b.cell? p = a.cell? p := World.cell?_of_block (w := a) (by rw [h.2.2.2])
theorem Still.below {a b : World} (h : Still a b) (B : Nat) : Below B a b := ⟨h.1, h.2.1, h.2.2.1, by rw [h.2.2.2]; exact Nat.le_refl _, fun _ _ => by rw [h.2.2.2]⟩
theorem PsR.still {v : PsV} {n₀ up o : Nat} {ws : List Int} {F : Nat → Nat → Int} {m : Nat → Int} {mv : Nat → Bool} {G : Nat → Int} {b H : Int → Int} {W W' : World} (h : PsR v n₀ up o ws F m mv G b H W) (k : Still W W') : PsR v n₀ up o ws F m mv G b H W' :=
  h.heap (R := fun _ => False) ⟨k.1, k.2.1, k.2.2.1, by rw [k.2.2.2]; exact Nat.le_refl _, fun _ _ _ => by rw [k.2.2.2]⟩ (fun _ e => e.elim) (by have := h.ups.1; have := heap_lt h.box; omega)
set_option maxRecDepth 100000 in
set_option maxHeartbeats 2000000 in
theorem may_any {v : PsV} {n₀ up o : Nat} {ws : List Int} {F : Nat → Nat → Int} {m : Nat → Int} {mv : Nat → Bool} {G : Nat → Int} {b H : Int → Int} {w : World} (h : PsR v n₀ up o ws F m mv G b H w) {i : Nat} (hi : i < ws.length) :
    Calls Try.prog 84 #[.pointer (some ⟨o, 0, none⟩), .int .i64 (i : Int)] w fun e w' => e = .returned (.bool (mayM (wsF ws) m mv H b i)) ∧ Still w w' := by
  have hpa := h.pa.resolve_left (by omega)
  have hwa := h.bg.wa.resolve_left (by omega)
  have c0 := heap_cell h.box (i := 0) rfl
  have c2 := heap_cell h.box (i := 2) rfl
  have c3 := heap_cell h.box (i := 3) rfl
  have c4 := heap_cell h.box (i := 4) rfl
  have c5 := heap_cell h.box (i := 5) rfl
  have c6 := heap_cell h.box (i := 6) rfl
  have c8 := heap_cell h.box (i := 8) rfl
  have p1 := h.part.cell hi
  have p2 := h.moved.cell hi
  have p3 := h.bg.wts.cell hi
  have h2 := h.num.two i hi
  have hsm := h.num.small
  have hH : 0 ≤ H 0 ∧ H 0 ≤ 4503599627370496 ∧ 0 ≤ H 1 ∧ H 1 ≤ 4503599627370496 := by
    have key : ∀ t, 0 ≤ hvM ws.length (wsF ws) m t ∧ hvM ws.length (wsF ws) m t ≤ 1099511627776 * (ws.length : Int) := fun t => by
      unfold hvM
      have hw : ∀ b, b < ws.length → 0 ≤ wsF ws b ∧ wsF ws b ≤ 1099511627776 := fun b hb => by
        have := h.num.wts _ (List.getElem_mem hb)
        unfold wsF
        rw [List.getD_eq_getElem?_getD, List.getElem?_eq_getElem hb]
        show 0 ≤ ws[b] ∧ ws[b] ≤ 1099511627776
        omega
      have : ∀ k, k ≤ ws.length → 0 ≤ sumTo k (fun b => if m b = t then wsF ws b else 0) ∧ sumTo k (fun b => if m b = t then wsF ws b else 0) ≤ 1099511627776 * (k : Int) := fun k => by
        induction k with
        | zero => intro _; simp [sumTo]
        | succ k ih =>
          intro hk
          have h1 := ih (by omega)
          have h2 := hw k (by omega)
          have e : sumTo (k + 1) (fun b => if m b = t then wsF ws b else 0) = sumTo k (fun b => if m b = t then wsF ws b else 0) + (if m k = t then wsF ws k else 0) := rfl
          rw [e]
          split <;> constructor <;> omega
      exact this _ (Nat.le_refl _)
    have k0 := key 0
    have k1 := key 1
    rw [h.num.hv 0 (.inl rfl), h.num.hv 1 (.inr rfl)]
    omega
  have hw1 : 1 ≤ wsF ws i ∧ wsF ws i ≤ 1099511627776 := by
    have := h.num.wts _ (List.getElem_mem hi)
    unfold wsF
    rw [List.getD_eq_getElem?_getD, List.getElem?_eq_getElem hi]
    exact this
  have HM := Lib.hid (show mayM (wsF ws) m mv H b i = (!mv i && decide (H (1 - m i) + wsF ws i ≤ b (1 - m i))) from rfl)
  rw [hpa] at c2
  rw [hwa] at c0
  have hin : (i : Int) < (ws.length : Int) := by omega
  have hi0 : (0 : Int) ≤ (i : Int) := by omega
  generalize mayM (wsF ws) m mv H b i = R at *
  generalize wsF ws i = x at *
  clear h hpa hwa
  simp only [List.getElem_toArray, List.getElem_cons_zero, List.getElem_cons_succ] at c0 c2 c3 c4 c5 c6 c8
  generalize ws.length = n at *
  generalize m i = mi at *
  generalize mv i = vi at *
  generalize hH0 : H 0 = H0 at *
  generalize hH1 : H 1 = H1 at *
  generalize hb0 : b 0 = b0 at *
  generalize hb1 : b 1 = b1 at *
  cases vi with
  | true =>
    have hR : R = false := by rw [HM.out]; rfl
    clear HM
    subst hR
    rcases h2 with rfl | rfl
    all_goals
      go_enter Try.func84, Try.ntmps84
      go_upto_region 2 with fail
      go_quiet (fail)
      go_wp2
      go_ret
      exact ⟨rfl, rfl, rfl, rfl, rfl⟩
  | false =>
    have hR : R = decide (H (1 - mi) + x ≤ b (1 - mi)) := by rw [HM.out]; simp
    clear HM
    rcases h2 with rfl | rfl
    · have hR1 : R = decide (H1 + x ≤ b1) := by rw [hR, ← hH1, ← hb1]; rfl
      have hw2 : IntKind.i64.wrap (H1 + x) = H1 + x := IntWalk.i64_in _ (by omega)
      clear hR
      go_enter Try.func84, Try.ntmps84
      go_upto_region 2 with fail
      go_quiet (fail)
      go_wp2
      go_ret
      exact ⟨by rw [hR1]; rfl, rfl, rfl, rfl, rfl⟩
    · have hR1 : R = decide (H0 + x ≤ b0) := by rw [hR, ← hH0, ← hb0]; rfl
      have hw2 : IntKind.i64.wrap (H0 + x) = H0 + x := IntWalk.i64_in _ (by omega)
      clear hR
      go_enter Try.func84, Try.ntmps84
      go_upto_region 2 with fail
      go_quiet (fail)
      go_wp2
      go_ret
      exact ⟨by rw [hR1]; rfl, rfl, rfl, rfl, rfl⟩
theorem bestM_step (may : Nat → Bool) (G : Nat → Int) (k : Nat) : bestM may G (k + 1) = if may k = true ∧ (∀ f, bestM may G k = some f → G f < G k) then some k else bestM may G k := rfl
set_option maxRecDepth 100000 in
set_option maxHeartbeats 2000000 in
theorem next_any {v : PsV} {n₀ up o : Nat} {ws : List Int} {F : Nat → Nat → Int} {m : Nat → Int} {mv : Nat → Bool} {G : Nat → Int} {b H : Int → Int} {w : World} (h : PsR v n₀ up o ws F m mv G b H w) :
    Calls Try.prog 75 #[.pointer (some ⟨o, 0, none⟩)] w fun e w' => ∃ r, e = .returned (.tuple #[.int .i64 ((r.getD 0 : Nat) : Int), .bool r.isSome]) ∧ r = bestM (mayM (wsF ws) m mv H b) (tG ws.length F m) ws.length ∧ Still w w' := by
  have HG := Lib.hid (show bestM (mayM (wsF ws) m mv H b) G ws.length = bestM (mayM (wsF ws) m mv H b) (tG ws.length F m) ws.length from bestM_congr _ (fun _ _ => rfl) (fun i hi hm => by
    obtain ⟨c, h1, h2, _⟩ := h.num.gain i hi
    have : mv i = false := by
      unfold mayM at hm
      cases e : mv i with
      | false => rfl
      | true => rw [e] at hm; simp at hm
    rw [h1, h2 this]; omega))
  have c7 := heap_cell h.box (i := 7) rfl
  simp only [List.getElem_toArray, List.getElem_cons_zero, List.getElem_cons_succ] at c7
  have HC7 := Lib.hid c7
  have HM := Lib.hid (fun W (hW : Still w W) k (hk : k < ws.length) => may_any (h.still hW) hk)
  have HGc := Lib.hid (fun W (hW : Still w W) k (hk : k < ws.length) => (hW.cell _).trans (h.gain.cell hk))
  have hsm := h.num.small
  have HL := Lib.hid (fun k f => (bestM_lt (mayM (wsF ws) m mv H b) G k f))
  have HSt := Lib.hid (bestM_step (mayM (wsF ws) m mv H b) G)
  clear h
  generalize bestM (mayM (wsF ws) m mv H b) (tG ws.length F m) ws.length = R at *
  generalize mayM (wsF ws) m mv H b = may at *
  generalize ws.length = n at *
  go_enter Try.func75, Try.ntmps75
  go_wp2
  clear c7
  go_loopw [4, 5, 13] (fun a c i wr => ∃ (k : Nat) (r : Option Nat), k ≤ n ∧ i = .int .i64 k ∧ a = .int .i64 ((r.getD 0 : Nat) : Int) ∧ c = .bool r.isSome ∧ Hid (bestM may G k = r) ∧ Hid (Still w wr)) (fun _ _ i _ => n - (intOf i).toNat)
  case atStart => exact ⟨0, none, Nat.zero_le _, rfl, rfl, rfl, Lib.hid rfl, Lib.hid (Still.refl _)⟩
  case round =>
    obtain ⟨k, r, hk, rfl, rfl, rfl, HB, HS⟩ := hrel
    by_cases hlt : k < n
    · have hkn : (k : Int) < (n : Int) := by omega
      have g1 := HGc.out wr HS.out k hlt
      have CM := Lib.hid (HM.out wr HS.out k hlt)
      have hst := HSt.out k
      cases hmk : may k with
      | false =>
        rw [hmk] at CM hst
        rw [if_neg (by simp)] at hst
        have HSt' := Lib.hid (hst.trans HB.out)
        clear hst hmk
        go_wp2_with fail
        refine CM.out.mono ?_
        rintro e w1 ⟨rfl, hw1⟩
        have HS1 := Lib.hid (HS.out.trans hw1)
        clear hw1 g1 CM
        go_wp2_with fail
        go_roundw
        case rel => exact ⟨k + 1, r, by omega, by go_num, rfl, rfl, HSt', HS1⟩
        case measure => simp [intOf]; omega
      | true =>
        rw [hmk] at CM hst
        cases r with
        | none =>
          rw [if_pos ⟨rfl, fun f hf => by rw [HB.out] at hf; cases hf⟩] at hst
          have HSt' := Lib.hid hst
          clear hst hmk
          simp only [Option.isSome_none, Option.getD_none]
          go_wp2_with fail
          refine CM.out.mono ?_
          rintro e w1 ⟨rfl, hw1⟩
          have HS1 := Lib.hid (HS.out.trans hw1)
          clear hw1 g1 CM
          go_wp2_with fail
          go_roundw
          case rel => exact ⟨k + 1, some k, by omega, by go_num, rfl, rfl, HSt', HS1⟩
          case measure => simp [intOf]; omega
        | some f =>
          obtain ⟨hf1, _⟩ := HL.out k f HB.out
          have HGf := Lib.hid (fun W hW => HGc.out W hW f (by omega))
          have hfn : (f : Int) < (n : Int) := by omega
          simp only [Option.isSome_some, Option.getD_some]
          have hcd : (may k = true ∧ ∀ f', bestM may G k = some f' → G f' < G k) ↔ G f < G k := ⟨fun h => h.2 f HB.out, fun h => ⟨hmk, fun f' hf => by rw [HB.out] at hf; cases hf; exact h⟩⟩
          rw [hmk] at hcd
          by_cases hg : G f < G k
          · rw [if_pos (hcd.2 hg)] at hst
            have HSt' := Lib.hid hst
            have hgd : decide (G f < G k) = true := decide_eq_true hg
            clear hst hmk hcd hg
            go_wp2_with fail
            refine CM.out.mono ?_
            rintro e w1 ⟨rfl, hw1⟩
            have HS1 := Lib.hid (HS.out.trans hw1)
            have g2 := HGf.out w1 HS1.out
            have c7 := (HS1.out.cell _).trans HC7.out
            clear hw1 g1 CM
            go_wp2_with fail
            go_roundw
            case rel => exact ⟨k + 1, some k, by omega, by go_num, rfl, rfl, HSt', HS1⟩
            case measure => simp [intOf]; omega
          · rw [if_neg (fun h => hg (hcd.1 h))] at hst
            have HSt' := Lib.hid (hst.trans HB.out)
            have hgd : decide (G f < G k) = false := decide_eq_false hg
            clear hst hmk hcd hg
            go_wp2_with fail
            refine CM.out.mono ?_
            rintro e w1 ⟨rfl, hw1⟩
            have HS1 := Lib.hid (HS.out.trans hw1)
            have g2 := HGf.out w1 HS1.out
            have c7 := (HS1.out.cell _).trans HC7.out
            clear hw1 g1 CM
            go_wp2_with fail
            go_roundw
            case rel => exact ⟨k + 1, some f, by omega, by go_num, rfl, rfl, HSt', HS1⟩
            case measure => simp [intOf]; omega
    · obtain rfl : k = n := by omega
      have HR := Lib.hid (HB.out.symm.trans HG.out)
      go_wp2
      go_ret2
      exact ⟨r, rfl, HR.out, HS.out⟩
end Go.Proofs.Ytjpgkocffceeoaa

namespace Go.Proofs.Ytjpgkocffceeoaa
open Go.RowKit Go.Shelf Rk

attribute [local go_sem] Oper.semAt_some

/-- What asking wants of a pass. -/
structure AskR (v : PsV) (n₀ up o : Nat) (ws : List Int) (F : Nat → Nat → Int) (m : Nat → Int) (W : World) : Prop where
  c1 : W.cell? ⟨o, 1, none⟩ = some (.slice v.na ws.length v.nc)
  c2 : W.cell? ⟨o, 2, none⟩ = some (.slice v.pa ws.length v.pc)
  olt : o < W.heap.size
  bg : BgR v n₀ up ws F W
  upz : up ≤ W.heap.size
  pa : ws.length = 0 ∨ v.pa = some ⟨v.pb, 0, none⟩
  part : OwR W v.pb 3 ws.length (fun i => .int .i64 (m i))
  tab : Tab ws.length F
  small : ws.length ≤ 4096
theorem AskR.below {v : PsV} {n₀ up o : Nat} {ws : List Int} {F : Nat → Nat → Int} {m : Nat → Int} {W W' : World} (h : AskR v n₀ up o ws F m W) (hb : Below W.heap.size W W') : AskR v n₀ up o ws F m W' :=
  ⟨(hb.cell (p := ⟨o, 1, none⟩) h.olt).trans h.c1, (hb.cell (p := ⟨o, 2, none⟩) h.olt).trans h.c2, Nat.lt_of_lt_of_le h.olt hb.size, h.bg.below (hb.mono h.upz), Nat.le_trans h.upz hb.size, h.pa, h.part.below hb (by
    by_cases e : ws.length = 0
    · exact .inl e
    · exact .inr (h.part.lt (by omega))), h.tab, h.small⟩
theorem PsR.ask {v : PsV} {n₀ up o : Nat} {ws : List Int} {F : Nat → Nat → Int} {m : Nat → Int} {mv : Nat → Bool} {G : Nat → Int} {b H : Int → Int} {W : World} (h : PsR v n₀ up o ws F m mv G b H W) : AskR v n₀ up o ws F m W :=
  ⟨heap_cell h.box rfl, heap_cell h.box rfl, heap_lt h.box, h.bg, by have := h.ups.1; have := heap_lt h.box; omega, h.pa, h.part, h.num.tab, h.num.small⟩
set_option maxRecDepth 100000 in
set_option maxHeartbeats 4000000 in
theorem asked_any {v : PsV} {n₀ up o : Nat} {ws : List Int} {F : Nat → Nat → Int} {m : Nat → Int} {w : World} (h : AskR v n₀ up o ws F m w) {i : Nat} (hi : i < ws.length) :
    Calls Try.prog 83 #[.pointer (some ⟨o, 0, none⟩), .int .i64 (i : Int)] w fun e w' => e = .returned (.int .i64 (tG ws.length F m i)) ∧ Below w.heap.size w w' := by
  have b0 : Below w.heap.size w (((w.alloc (.cells #[.pointer (some ⟨o, 0, none⟩)] 118)).alloc (.cells #[.int .i64 (i : Int)] 3)).alloc (.cells #[.int .i64 0] 2)) := (((Below.refl _ w).alloc (Nat.le_refl _) _).alloc (by simp) _).alloc (by simp; omega) _
  have bP : Boxed (((w.alloc (.cells #[.pointer (some ⟨o, 0, none⟩)] 118)).alloc (.cells #[.int .i64 (i : Int)] 3)).alloc (.cells #[.int .i64 0] 2)) w.heap.size 118 (.pointer (some ⟨o, 0, none⟩)) := ((Boxed.new w 118 _).alloc _).alloc _
  have bI : Boxed (((w.alloc (.cells #[.pointer (some ⟨o, 0, none⟩)] 118)).alloc (.cells #[.int .i64 (i : Int)] 3)).alloc (.cells #[.int .i64 0] 2)) (w.heap.size + 1) 3 (.int .i64 (i : Int)) := Boxed.alloc (by have := Boxed.new (w.alloc (.cells #[.pointer (some ⟨o, 0, none⟩)] 118)) 3 (.int .i64 (i : Int)); rwa [World.size_alloc] at this) _
  have bG : Boxed (((w.alloc (.cells #[.pointer (some ⟨o, 0, none⟩)] 118)).alloc (.cells #[.int .i64 (i : Int)] 3)).alloc (.cells #[.int .i64 0] 2)) (w.heap.size + 1 + 1) 2 (.int .i64 0) := by have := Boxed.new ((w.alloc (.cells #[.pointer (some ⟨o, 0, none⟩)] 118)).alloc (.cells #[.int .i64 (i : Int)] 3)) 2 (.int .i64 0); simp only [World.size_alloc] at this; exact this
  have hz1 : (((w.alloc (.cells #[.pointer (some ⟨o, 0, none⟩)] 118)).alloc (.cells #[.int .i64 (i : Int)] 3)).alloc (.cells #[.int .i64 0] 2)).heap.size = w.heap.size + 1 + 1 + 1 := by simp
  have HB0 := Lib.hid b0
  have HbP := Lib.hid bP
  have HbI := Lib.hid bI
  have HbG := Lib.hid bG
  have HA := Lib.hid (h.below b0)
  have HA0 := Lib.hid h
  have HF : Hid (askS m i (rowOf ws.length (F i)) = tG ws.length F m i) := Lib.hid (ask_row ws.length h.tab m i)
  have HTab := Lib.hid h.tab
  have hsm := h.small
  have hup := h.upz
  have HMEM : Hid (∀ x ∈ rowOf ws.length (F i), (∃ b : Nat, x.1 = (b : Int) ∧ b < ws.length) ∧ 0 ≤ x.2 ∧ x.2 ≤ 1099511627776) := Lib.hid (fun x hx => by
    obtain ⟨b, h1, h2, rfl⟩ := mem_rowOf.1 hx
    exact ⟨⟨b, rfl, h1⟩, by show 0 ≤ F i b; omega, HTab.out.hi i b⟩)
  have HLen : Hid ((rowOf ws.length (F i)).length ≤ ws.length) := Lib.hid (rowOf_length _ _)
  obtain ⟨hna, hpa⟩ : v.na = some ⟨v.nb, 0, none⟩ ∧ v.pa = some ⟨v.pb, 0, none⟩ := ⟨h.bg.na.resolve_left (by omega), h.pa.resolve_left (by omega)⟩
  have hn0 : n₀ ≤ w.heap.size := by
    obtain ⟨ne, h1, h2⟩ := h.bg.near
    have := (h2 i hi).2.1
    omega
  clear h b0 bP bI bG HTab
  obtain ⟨res, hres⟩ : ∃ r, tG ws.length F m i = r := ⟨_, rfl⟩
  rw [hres] at HF ⊢
  clear hres
  refine (callsIn_wide (n := 3)).1 ?_
  refine callsIn_of_wp_marks Try.func83 rfl trivial ?_ rfl
  simp only [Try.ntmps83, List.size_toArray, List.length_cons, List.length_nil, Nat.reduceAdd, Nat.reduceSub, Array.replicate_succ, Array.replicate_zero, List.push_toArray, List.append_toArray, List.nil_append, List.cons_append]
  refine wpIn_wide.2 ?_
  go_upto_region 2 with fail
  generalize (((w.alloc (.cells #[.pointer (some ⟨o, 0, none⟩)] 118)).alloc (.cells #[.int .i64 (i : Int)] 3)).alloc (.cells #[.int .i64 0] 2)) = w1 at *
  obtain ⟨ne, hnr, hsq⟩ := HA.out.bg.near
  have cN := hnr.cell hi
  have hsu := (hsq i hi).1
  have c1 := HA.out.c1
  have cP := HbP.out.cell
  have cI := HbI.out.cell
  obtain ⟨lb, hu, hst⟩ := hsu.stopsP 2
  rw [hu] at cN
  rw [hna] at c1
  have hin : (i : Int) < (ws.length : Int) := by omega
  have hi0 : (0 : Int) ≤ (i : Int) := by omega
  have HFX := Lib.hid (fun (W : World) (hW : Below (w.heap.size + 1 + 1) w1 W) => And.intro (Boxed.cell (show Boxed W _ 118 _ from heap_below HbP.out hW (by omega))) (And.intro (Boxed.cell (show Boxed W _ 3 _ from heap_below HbI.out hW (by omega))) (And.intro (HA0.out.below (HB0.out.trans (hW.mono (by omega)))).c2 (HA0.out.below (HB0.out.trans (hW.mono (by omega)))).part)))
  clear hnr hsq hsu hu
  generalize rowOf ws.length (F i) = D at *
  generalize ws.length = n at *
  go_quiet (fail)
  obtain ⟨w2, hw2⟩ : ∃ w2, w1.drewN nq = w2 := ⟨_, rfl⟩
  have hz2 : w2.heap.size = w1.heap.size := by rw [← hw2]; rfl
  have hB2 : Below (w.heap.size + 1 + 1) w1 w2 := by rw [← hw2]; exact ⟨rfl, rfl, rfl, Nat.le_refl _, fun _ _ => rfl⟩
  have hG2 : Boxed w2 (w.heap.size + 1 + 1) 2 (.int .i64 0) := by rw [← hw2]; exact HbG.out
  have hst2 : SeqP Fence.wide 2 Try.prog 91 lb encP (Below n₀) D w2 := hst.below (by rw [← hw2]; exact ⟨rfl, rfl, rfl, Nat.le_refl _, fun _ _ => rfl⟩)
  rw [hw2]
  clear hw2 hst cN cP cI c1
  go_wp2
  refine (wpIn_wide (n := 3)).1 ?_
  refine wpIn_rangeFunc_ownG rfl (by omega) (gf := 91) (lb := lb) rfl trivial (enters_of Try.func91 (by kernel_rfl) rfl)
    hst2.stopsF belowK_t (belowK_b (by omega)) (Below.refl _ _) (fun _ => rfl)
    (fun pre W => Below (w.heap.size + 1 + 1) w1 W ∧ Boxed W (w.heap.size + 1 + 1) 2 (.int .i64 (askS m i (pre.map D.get))))
    (fun _ _ _ => False)
    (OwnFrom.and (ownFrom_below (by omega) (by omega)) (Own.from (boxed_own (w.heap.size + 1 + 1) 2 (fun pre : List (Fin D.length) => .int .i64 (askS m i (pre.map D.get)))) _))
    (fun _ _ _ _ _ hs _ _ => hs)
    ⟨hB2, hG2⟩
    ?_ ?assign ?body ?done ?stop
  case assign =>
    intro l x W K hK
    unfold encP
    gi_wp2
    exact hK
  case body =>
    rintro l pre x W ⟨hB, hG⟩ hlt
    obtain ⟨⟨c, hb1, hb2⟩, hx0, hx1⟩ := HMEM.out _ (List.getElem_mem x.isLt)
    have hI : ∀ r, askS m i (pre.map D.get) + ask1 m i D[x.val] = r → askS m i ((pre ++ [x]).map D.get) = r := fun r hr => by
      rw [List.map_append, List.map_cons, List.map_nil, askS_snoc, List.get_eq_getElem, hr]
    have hbd := askS_bd m i (pre.map D.get) (fun y hy => by
      obtain ⟨j, _, rfl⟩ := List.mem_map.1 hy
      exact (HMEM.out _ (List.getElem_mem j.isLt)).2)
    rw [List.length_map] at hbd
    have hll := HLen.out
    have HS := Lib.hid (show ask1 m i D[x.val] = (if m (D[x.val]).1.toNat = m i then - (D[x.val]).2 else (D[x.val]).2) from rfl)
    have HI := Lib.hid hI
    clear hI hG2 hB2 hst2
    generalize ask1 m i D[x.val] = gx at *
    generalize askS m i (pre.map D.get) = s at *
    generalize D[x.val] = p at *
    obtain ⟨p1, p2⟩ := p
    simp only at hb1 hx0 hx1 HS
    subst hb1
    rw [Int.toNat_natCast] at HS
    obtain ⟨cP, cI, c2, hpW⟩ := HFX.out W hB
    rw [hpa] at c2
    have cb := hpW.cell hb2
    have ci := hpW.cell hi
    have hbb : (c : Int) < (n : Int) := by omega
    have hb0 : (0 : Int) ≤ (c : Int) := by omega
    have HG := Lib.hid hG
    have HB := Lib.hid hB
    clear hpW hB hG
    generalize m c = y at *
    generalize m i = z at *
    have hw3 : IntKind.i64.wrap (s + p2) = s + p2 := IntWalk.i64_in _ (by omega)
    have hw4 : IntKind.i64.wrap (s - p2) = s - p2 := IntWalk.i64_in _ (by omega)
    gi_wp2
    refine region_round_quiet rfl (by kernel_rfl) rfl (by kernel_rfl) ?_
    repeat (gi_big_quiet_step (fail))
    refine wpQuietIn_nil ?_
    intro _ hw'
    obtain ⟨nr, rfl⟩ := hw'
    clear cP cI c2 cb ci
    have Hst : Hid (KeepsOthers W (W.drewN nr) ∧ Below (w.heap.size + 1 + 1) W (W.drewN nr) ∧ Below (w.heap.size + 1 + 1) w1 (W.drewN nr) ∧ Boxed (W.drewN nr) (w.heap.size + 1 + 1) 2 (.int .i64 s)) := Lib.hid ⟨⟨Nat.le_refl _, fun _ _ h _ => h⟩, ⟨rfl, rfl, rfl, Nat.le_refl _, fun _ _ => rfl⟩, HB.out.trans ⟨rfl, rfl, rfl, Nat.le_refl _, fun _ _ => rfl⟩, HG.out⟩
    generalize W.drewN nr = W1 at *
    have cG := Hst.out.2.2.2.cell
    have fG := Hst.out.2.2.2.frozen
    by_cases h1 : y = z
    · have h1b : ((y : Int) == z) = true := by simpa using h1
      have HR := Lib.hid (HI.out (s - p2) (by rw [HS.out, if_pos h1]; omega))
      gi_wp2
      exact ⟨(Hst.out.1.trans (KeepsOthers.setCell _ _ _)).from _, (Hst.out.2.1.setCell (p := ⟨w.heap.size + 1 + 1, 0, none⟩) (Nat.le_refl _) _).mono (by omega), Hst.out.2.2.1.setCell (p := ⟨w.heap.size + 1 + 1, 0, none⟩) (Nat.le_refl _) _, by rw [HR.out]; exact Hst.out.2.2.2.set _⟩
    · have h1b : ((y : Int) == z) = false := by simpa using h1
      have HR := Lib.hid (HI.out (s + p2) (by rw [HS.out, if_neg h1]))
      gi_wp2
      exact ⟨(Hst.out.1.trans (KeepsOthers.setCell _ _ _)).from _, (Hst.out.2.1.setCell (p := ⟨w.heap.size + 1 + 1, 0, none⟩) (Nat.le_refl _) _).mono (by omega), Hst.out.2.2.1.setCell (p := ⟨w.heap.size + 1 + 1, 0, none⟩) (Nat.le_refl _) _, by rw [HR.out]; exact Hst.out.2.2.2.set _⟩
  case done =>
    rintro E ys W hD rfl ⟨hB, hG⟩ hK
    rw [get_finRange] at hG
    have c1 := hG.cell
    go_wp2
    refine ⟨by simp, .inl ⟨_, _, rfl, run_takeDeferred hK, ?_⟩⟩
    refine ⟨_, results_tmp rfl _ _ _, ?_, ((HB0.out.trans (hB.mono (by omega))).trans (belowK_b (w := w) (Nat.le_refl _) _ E _ _ (by omega) hK rfl rfl))⟩
    exact ret1 HF.out
  case stop =>
    rintro E c pre W hD hpre h hK
    exact h.elim
end Go.Proofs.Ytjpgkocffceeoaa

namespace Go.Proofs.Ytjpgkocffceeoaa
open Go.RowKit Go.Shelf Rk

attribute [local go_sem] Oper.semAt_some

/-- The cells of a pass. -/
structure PsC (v : PsV) (n₀ up o : Nat) (ws : List Int) (F : Nat → Nat → Int) (m : Nat → Int) (mv : Nat → Bool) (G : Nat → Int) (b0 b1 h0 h1 : Int) (W : World) : Prop where
  box : W.heap[o]? = some (.cells #[.slice v.wa ws.length v.wc, .slice v.na ws.length v.nc, .slice v.pa ws.length v.pc, .int .i64 b0, .int .i64 b1, .int .i64 h0, .int .i64 h1, .slice (some ⟨v.gb, 0, none⟩) ws.length ws.length, .slice (some ⟨v.vb, 0, none⟩) ws.length ws.length] 116 (0, 0))
  bg : BgR v n₀ up ws F W
  pa : ws.length = 0 ∨ v.pa = some ⟨v.pb, 0, none⟩
  part : OwR W v.pb 3 ws.length (fun i => .int .i64 (m i))
  gain : OwR W v.gb 2 ws.length (fun i => .int .i64 (G i))
  moved : OwR W v.vb 4 ws.length (fun i => .bool (mv i))
  ups : up ≤ o ∧ up ≤ v.pb ∧ up ≤ v.gb ∧ up ≤ v.vb
  dis : o ≠ v.pb ∧ o ≠ v.gb ∧ o ≠ v.vb ∧ v.pb ≠ v.gb ∧ v.pb ≠ v.vb ∧ v.gb ≠ v.vb
section
variable {v : PsV} {n₀ up o : Nat} {ws : List Int} {F : Nat → Nat → Int} {m : Nat → Int} {mv : Nat → Bool} {G : Nat → Int} {b0 b1 h0 h1 : Int} {W W' : World}
theorem PsR.cells {b H : Int → Int} (h : PsR v n₀ up o ws F m mv G b H W) : PsC v n₀ up o ws F m mv G (b 0) (b 1) (H 0) (H 1) W := ⟨h.box, h.bg, h.pa, h.part, h.gain, h.moved, h.ups, h.dis⟩
theorem PsC.upz (h : PsC v n₀ up o ws F m mv G b0 b1 h0 h1 W) : up ≤ W.heap.size := by have := h.ups.1; have := heap_lt h.box; omega
theorem PsC.heap (h : PsC v n₀ up o ws F m mv G b0 b1 h0 h1 W) {R : Nat → Prop} (ht : Turned R W W') (hu : ∀ k, R k → up ≤ k ∧ k ≠ o ∧ k ≠ v.pb ∧ k ≠ v.gb ∧ k ≠ v.vb) : PsC v n₀ up o ws F m mv G b0 b1 h0 h1 W' :=
  ⟨ht.old h.box (fun e => (hu _ e).2.1 rfl), h.bg.below ⟨ht.os, ht.tape, ht.output, ht.size, fun k hk => ht.block k (by have := h.upz; omega) (fun e => by have := (hu _ e).1; omega)⟩, h.pa,
    h.part.turned ht (.inr fun e => (hu _ e).2.2.1 rfl), h.gain.turned ht (.inr fun e => (hu _ e).2.2.2.1 rfl), h.moved.turned ht (.inr fun e => (hu _ e).2.2.2.2 rfl), h.ups, h.dis⟩
theorem PsC.still (h : PsC v n₀ up o ws F m mv G b0 b1 h0 h1 W) (k : Still W W') : PsC v n₀ up o ws F m mv G b0 b1 h0 h1 W' :=
  h.heap (R := fun _ => False) ⟨k.1, k.2.1, k.2.2.1, by rw [k.2.2.2]; exact Nat.le_refl _, fun _ _ _ => by rw [k.2.2.2]⟩ (fun _ e => e.elim)
theorem PsC.bgset (h : PsC v n₀ up o ws F m mv G b0 b1 h0 h1 W) {c : Nat} (hc : up ≤ c) (i : Nat) (x : Value) : BgR v n₀ up ws F (W.setCell ⟨c, i, none⟩ x) := h.bg.below ((Below.refl _ W).setCell (p := ⟨c, i, none⟩) hc x)
theorem PsC.setPart (h : PsC v n₀ up o ws F m mv G b0 b1 h0 h1 W) {i : Nat} (hi : i < ws.length) (x : Int) : PsC v n₀ up o ws F (upd m i x) mv G b0 b1 h0 h1 (W.setCell ⟨v.pb, i, none⟩ (.int .i64 x)) := by
  have ht := Turned.set W v.pb i (.int .i64 x)
  obtain ⟨d1, d2, d3, d4, d5, d6⟩ := h.dis
  exact ⟨ht.old h.box (fun e => d1 e), h.bgset h.ups.2.1 _ _, h.pa, (h.part.set hi _).congr (fun c hc => by by_cases e : c = i <;> simp [upd, e]), h.gain.turned ht (.inr fun e => d4 e.symm), h.moved.turned ht (.inr fun e => d5 e.symm), h.ups, h.dis⟩
theorem PsC.setMoved (h : PsC v n₀ up o ws F m mv G b0 b1 h0 h1 W) {i : Nat} (hi : i < ws.length) (x : Bool) : PsC v n₀ up o ws F m (fun c => if c = i then x else mv c) G b0 b1 h0 h1 (W.setCell ⟨v.vb, i, none⟩ (.bool x)) := by
  have ht := Turned.set W v.vb i (.bool x)
  obtain ⟨d1, d2, d3, d4, d5, d6⟩ := h.dis
  exact ⟨ht.old h.box (fun e => d3 e), h.bgset h.ups.2.2.2 _ _, h.pa, h.part.turned ht (.inr fun e => d5 e), h.gain.turned ht (.inr fun e => d6 e), (h.moved.set hi _).congr (fun c hc => by by_cases e : c = i <;> simp [e]), h.ups, h.dis⟩
theorem PsC.setGain (h : PsC v n₀ up o ws F m mv G b0 b1 h0 h1 W) {i : Nat} (hi : i < ws.length) (x : Int) : PsC v n₀ up o ws F m mv (upd G i x) b0 b1 h0 h1 (W.setCell ⟨v.gb, i, none⟩ (.int .i64 x)) := by
  have ht := Turned.set W v.gb i (.int .i64 x)
  obtain ⟨d1, d2, d3, d4, d5, d6⟩ := h.dis
  exact ⟨ht.old h.box (fun e => d2 e), h.bgset h.ups.2.2.1 _ _, h.pa, h.part.turned ht (.inr fun e => d4 e), (h.gain.set hi _).congr (fun c hc => by by_cases e : c = i <;> simp [upd, e]), h.moved.turned ht (.inr fun e => d6 e.symm), h.ups, h.dis⟩
theorem PsC.setH0 (h : PsC v n₀ up o ws F m mv G b0 b1 h0 h1 W) (x : Int) : PsC v n₀ up o ws F m mv G b0 b1 x h1 (W.setCell ⟨o, 5, none⟩ (.int .i64 x)) := by
  have ht := Turned.set W o 5 (.int .i64 x)
  obtain ⟨d1, d2, d3, d4, d5, d6⟩ := h.dis
  exact ⟨by simpa using heap_set h.box 5 (.int .i64 x), h.bgset h.ups.1 _ _, h.pa, h.part.turned ht (.inr fun e => d1 e.symm), h.gain.turned ht (.inr fun e => d2 e.symm), h.moved.turned ht (.inr fun e => d3 e.symm), h.ups, h.dis⟩
theorem PsC.setH1 (h : PsC v n₀ up o ws F m mv G b0 b1 h0 h1 W) (x : Int) : PsC v n₀ up o ws F m mv G b0 b1 h0 x (W.setCell ⟨o, 6, none⟩ (.int .i64 x)) := by
  have ht := Turned.set W o 6 (.int .i64 x)
  obtain ⟨d1, d2, d3, d4, d5, d6⟩ := h.dis
  exact ⟨by simpa using heap_set h.box 6 (.int .i64 x), h.bgset h.ups.1 _ _, h.pa, h.part.turned ht (.inr fun e => d1 e.symm), h.gain.turned ht (.inr fun e => d2 e.symm), h.moved.turned ht (.inr fun e => d3 e.symm), h.ups, h.dis⟩
end
theorem PsN.hbd {ws : List Int} {F : Nat → Nat → Int} {m : Nat → Int} {mv : Nat → Bool} {G : Nat → Int} {H : Int → Int} (h : PsN ws F m mv G H) : 0 ≤ H 0 ∧ H 0 ≤ 4503599627370496 ∧ 0 ≤ H 1 ∧ H 1 ≤ 4503599627370496 := by
  have hsm := h.small
  have key : ∀ t, 0 ≤ hvM ws.length (wsF ws) m t ∧ hvM ws.length (wsF ws) m t ≤ 1099511627776 * (ws.length : Int) := fun t => by
    unfold hvM
    have hw : ∀ b, b < ws.length → 0 ≤ wsF ws b ∧ wsF ws b ≤ 1099511627776 := fun b hb => by
      have := h.wts _ (List.getElem_mem hb)
      unfold wsF
      rw [List.getD_eq_getElem?_getD, List.getElem?_eq_getElem hb]
      show 0 ≤ ws[b] ∧ ws[b] ≤ 1099511627776
      omega
    have : ∀ k, k ≤ ws.length → 0 ≤ sumTo k (fun b => if m b = t then wsF ws b else 0) ∧ sumTo k (fun b => if m b = t then wsF ws b else 0) ≤ 1099511627776 * (k : Int) := fun k => by
      induction k with
      | zero => intro _; simp [sumTo]
      | succ k ih =>
        intro hk
        have h1 := ih (by omega)
        have h2 := hw k (by omega)
        have e : sumTo (k + 1) (fun b => if m b = t then wsF ws b else 0) = sumTo k (fun b => if m b = t then wsF ws b else 0) + (if m k = t then wsF ws k else 0) := rfl
        rw [e]
        split <;> constructor <;> omega
    exact this _ (Nat.le_refl _)
  have k0 := key 0
  have k1 := key 1
  rw [h.hv 0 (.inl rfl), h.hv 1 (.inr rfl)]
  omega
theorem PsN.wbd {ws : List Int} {F : Nat → Nat → Int} {m : Nat → Int} {mv : Nat → Bool} {G : Nat → Int} {H : Int → Int} (h : PsN ws F m mv G H) {i : Nat} (hi : i < ws.length) : 1 ≤ wsF ws i ∧ wsF ws i ≤ 1099511627776 := by
  have := h.wts _ (List.getElem_mem hi)
  unfold wsF
  rw [List.getD_eq_getElem?_getD, List.getElem?_eq_getElem hi]
  exact this
/-- What others gain is turned, one by one. -/
def trn1 (m : Nat → Int) (fr : Int) (G : Nat → Int) (x : Int × Int) : Nat → Int := upd G x.1.toNat (if m x.1.toNat = fr then G x.1.toNat + 2 * x.2 else G x.1.toNat - 2 * x.2)
def trnS (m : Nat → Int) (fr : Int) (G : Nat → Int) (l : List (Int × Int)) : Nat → Int := l.foldl (trn1 m fr) G
theorem trnS_snoc (m : Nat → Int) (fr : Int) (G : Nat → Int) (l : List (Int × Int)) (x : Int × Int) : trnS m fr G (l ++ [x]) = trn1 m fr (trnS m fr G l) x := by simp [trnS]
theorem trnS_bd (m : Nat → Int) (fr : Int) (c : Nat) : ∀ (l : List (Int × Int)) (G : Nat → Int) (B : Int), (- B ≤ G c ∧ G c ≤ B) → (∀ x ∈ l, 0 ≤ x.2 ∧ x.2 ≤ 1099511627776) → - (B + 2199023255552 * (l.length : Int)) ≤ trnS m fr G l c ∧ trnS m fr G l c ≤ B + 2199023255552 * (l.length : Int)
  | [], G, B, hG, _ => by simpa [trnS] using hG
  | x :: r, G, B, hG, h => by
    have h2 := h x (List.mem_cons_self ..)
    have h1 := trnS_bd m fr c r (trn1 m fr G x) (B + 2199023255552) (by
      unfold trn1 upd
      by_cases e : c = x.1.toNat
      · subst e
        rw [if_pos rfl]
        split <;> constructor <;> omega
      · rw [if_neg e]
        constructor <;> omega) (fun y hy => h y (List.mem_cons_of_mem _ hy))
    have e : trnS m fr G (x :: r) = trnS m fr (trn1 m fr G x) r := rfl
    rw [e, List.length_cons]
    constructor <;> omega
theorem trn_row (m : Nat → Int) (fr : Int) (G : Nat → Int) {f : Nat → Int} (hf : ∀ b, 0 ≤ f b) : ∀ k c, trnS m fr G (rowOf k f) c = if c < k then G c + (if m c = fr then 2 * f c else - (2 * f c)) else G c := fun k => by
  induction k with
  | zero => intro c; simp [trnS, rowOf]
  | succ k ih =>
    intro c
    rw [rowOf_succ]
    by_cases h0 : 0 < f k
    · rw [if_pos h0, trnS_snoc]
      unfold trn1 upd
      simp only [Int.toNat_natCast]
      by_cases e : c = k
      · subst e
        rw [if_pos rfl, ih, if_neg (Nat.lt_irrefl _), if_pos (Nat.lt_succ_self _)]
        split <;> omega
      · rw [if_neg e, ih]
        by_cases h : c < k
        · rw [if_pos h, if_pos (show c < k + 1 by omega)]
        · rw [if_neg h, if_neg (show ¬ c < k + 1 by omega)]
    · rw [if_neg h0, List.append_nil, ih]
      have hz : f k = 0 := by have := hf k; omega
      by_cases e : c = k
      · subst e
        rw [if_neg (Nat.lt_irrefl _), if_pos (Nat.lt_succ_self _), hz]
        simp
      · by_cases h : c < k
        · rw [if_pos h, if_pos (show c < k + 1 by omega)]
        · rw [if_neg h, if_neg (show ¬ c < k + 1 by omega)]
/-- What is known of the numbers behind a move. -/
theorem PsN.moved {ws : List Int} {F : Nat → Nat → Int} {m : Nat → Int} {mv : Nat → Bool} {G : Nat → Int} {H : Int → Int} (h : PsN ws F m mv G H) {i : Nat} (hi : i < ws.length) (hm : mv i = false) :
    PsN ws F (flipM m i) (fun c => if c = i then true else mv c) (trnS (flipM m i) (m i) G (rowOf ws.length (F i))) (fun t => if t = m i then H t - wsF ws i else H t + wsF ws i) := by
  refine ⟨h.tab, h.small, h.wts, h.two.flip hi, fun t ht => ?_, fun a ha => ?_⟩
  · obtain ⟨k1, k2⟩ := hv_flip (ws := wsF ws) h.two hi
    show (if t = m i then _ else _) = _
    by_cases e : t = m i
    · rw [if_pos e, e, k1, h.hv _ (h.two i hi)]
    · have e2 : t = 1 - m i := by rcases h.two i hi with e1 | e1 <;> rcases ht with e3 | e3 <;> omega
      rw [if_neg e, h.hv t ht, e2, k2]
  · obtain ⟨c, h1, h2, h3, h4⟩ := h.gain a ha
    rw [trn_row _ _ _ (h.tab.lo i), if_pos ha]
    by_cases e : a = i
    · subst e
      have hb := tG_bd h.tab m a
      have hsm := h.small
      have hc := h2 hm
      rw [h.tab.diag a, tG_back h.tab h.two hi, h1]
      refine ⟨2 * tG ws.length F m a, by simp; omega, fun e => by simp at e, by omega, by omega⟩
    · refine ⟨c, ?_, fun e2 => h2 (by simpa [e] using e2), h3, h4⟩
      rw [flip_ne m e, tG_turn h.tab h.two hi ha e, h1]
      by_cases e2 : m a = m i
      · rw [if_pos e2, if_pos e2.symm]; omega
      · rw [if_neg e2, if_neg (fun e3 => e2 e3.symm)]; omega
/-- The blocks that a pass turns. -/
def PsB (v : PsV) (o : Nat) (k : Nat) : Prop := k = o ∨ k = v.pb ∨ k = v.gb ∨ k = v.vb
/-- A move on its way. -/
structure MvR (v : PsV) (n₀ up o : Nat) (ws : List Int) (F : Nat → Nat → Int) (m : Nat → Int) (mv : Nat → Bool) (G : Nat → Int) (b0 b1 h0 h1 : Int) (w : World) (q4 : Nat) (from_ : Int) (W : World) : Prop where
  c : PsC v n₀ up o ws F m mv G b0 b1 h0 h1 W
  bP : Boxed W w.heap.size 118 (.pointer (some ⟨o, 0, none⟩))
  b4 : Boxed W q4 3 (.int .i64 from_)
  lt4 : w.heap.size < q4
  own : o < w.heap.size ∧ v.pb < w.heap.size ∧ v.gb < w.heap.size ∧ v.vb < w.heap.size
  turned : Turned (PsB v o) w W
theorem Turned.refl' (R : Nat → Prop) (w : World) : Turned R w w := ⟨rfl, rfl, rfl, Nat.le_refl _, fun _ _ _ => rfl⟩
theorem Turned.setT {R : Nat → Prop} {w W : World} (h : Turned R w W) {c : Nat} (hc : R c) (i : Nat) (x : Value) : Turned R w (W.setCell ⟨c, i, none⟩ x) := by
  have h2 := Turned.set W c i x
  exact ⟨h2.os.trans h.os, h2.tape.trans h.tape, h2.output.trans h.output, Nat.le_trans h.size h2.size, fun k hk hn => (h2.block k (Nat.lt_of_lt_of_le hk h.size) (fun e => hn (by rw [e]; exact hc))).trans (h.block k hk hn)⟩
theorem Turned.drewT {R : Nat → Prop} {w W : World} (h : Turned R w W) : Turned R w W.drew := ⟨h.os, h.tape, h.output, h.size, h.block⟩
section
variable {v : PsV} {n₀ up o : Nat} {ws : List Int} {F : Nat → Nat → Int} {m : Nat → Int} {mv : Nat → Bool} {G : Nat → Int} {b0 b1 h0 h1 : Int} {w W W' : World} {q4 : Nat} {fr : Int}
theorem MvR.boxes (h : MvR v n₀ up o ws F m mv G b0 b1 h0 h1 w q4 fr W) {c : Nat} (hc : PsB v o c) (i : Nat) (x : Value) : Boxed (W.setCell ⟨c, i, none⟩ x) w.heap.size 118 (.pointer (some ⟨o, 0, none⟩)) ∧ Boxed (W.setCell ⟨c, i, none⟩ x) q4 3 (.int .i64 fr) ∧ Turned (PsB v o) w (W.setCell ⟨c, i, none⟩ x) := by
  have hl := h.lt4
  obtain ⟨o1, o2, o3, o4⟩ := h.own
  have hlt : c < w.heap.size := by rcases hc with e | e | e | e <;> omega
  exact ⟨(Turned.set W c i x).old h.bP (by omega), (Turned.set W c i x).old h.b4 (by omega), h.turned.setT hc i x⟩
theorem MvR.setPart (h : MvR v n₀ up o ws F m mv G b0 b1 h0 h1 w q4 fr W) {i : Nat} (hi : i < ws.length) (x : Int) : MvR v n₀ up o ws F (upd m i x) mv G b0 b1 h0 h1 w q4 fr (W.setCell ⟨v.pb, i, none⟩ (.int .i64 x)) := by
  obtain ⟨k1, k2, k3⟩ := h.boxes (.inr (.inl rfl)) i (.int .i64 x)
  exact ⟨h.c.setPart hi x, k1, k2, h.lt4, h.own, k3⟩
theorem MvR.setMoved (h : MvR v n₀ up o ws F m mv G b0 b1 h0 h1 w q4 fr W) {i : Nat} (hi : i < ws.length) (x : Bool) : MvR v n₀ up o ws F m (fun c => if c = i then x else mv c) G b0 b1 h0 h1 w q4 fr (W.setCell ⟨v.vb, i, none⟩ (.bool x)) := by
  obtain ⟨k1, k2, k3⟩ := h.boxes (.inr (.inr (.inr rfl))) i (.bool x)
  exact ⟨h.c.setMoved hi x, k1, k2, h.lt4, h.own, k3⟩
theorem MvR.setGain (h : MvR v n₀ up o ws F m mv G b0 b1 h0 h1 w q4 fr W) {i : Nat} (hi : i < ws.length) (x : Int) : MvR v n₀ up o ws F m mv (upd G i x) b0 b1 h0 h1 w q4 fr (W.setCell ⟨v.gb, i, none⟩ (.int .i64 x)) := by
  obtain ⟨k1, k2, k3⟩ := h.boxes (.inr (.inr (.inl rfl))) i (.int .i64 x)
  exact ⟨h.c.setGain hi x, k1, k2, h.lt4, h.own, k3⟩
theorem MvR.setH0 (h : MvR v n₀ up o ws F m mv G b0 b1 h0 h1 w q4 fr W) (x : Int) : MvR v n₀ up o ws F m mv G b0 b1 x h1 w q4 fr (W.setCell ⟨o, 5, none⟩ (.int .i64 x)) := by
  obtain ⟨k1, k2, k3⟩ := h.boxes (.inl rfl) 5 (.int .i64 x)
  exact ⟨h.c.setH0 x, k1, k2, h.lt4, h.own, k3⟩
theorem MvR.setH1 (h : MvR v n₀ up o ws F m mv G b0 b1 h0 h1 w q4 fr W) (x : Int) : MvR v n₀ up o ws F m mv G b0 b1 h0 x w q4 fr (W.setCell ⟨o, 6, none⟩ (.int .i64 x)) := by
  obtain ⟨k1, k2, k3⟩ := h.boxes (.inl rfl) 6 (.int .i64 x)
  exact ⟨h.c.setH1 x, k1, k2, h.lt4, h.own, k3⟩
theorem MvR.still (h : MvR v n₀ up o ws F m mv G b0 b1 h0 h1 w q4 fr W) (k : Still W W') : MvR v n₀ up o ws F m mv G b0 b1 h0 h1 w q4 fr W' :=
  ⟨h.c.still k, by show W'.heap[_]? = _; rw [k.2.2.2]; exact h.bP, by show W'.heap[_]? = _; rw [k.2.2.2]; exact h.b4, h.lt4, h.own, ⟨k.1.trans h.turned.os, k.2.1.trans h.turned.tape, k.2.2.1.trans h.turned.output, by rw [k.2.2.2]; exact h.turned.size, fun c h1 h2 => by rw [k.2.2.2]; exact h.turned.block c h1 h2⟩⟩
theorem MvR.reads (h : MvR v n₀ up o ws F m mv G b0 b1 h0 h1 w q4 fr W) : ∀ X, Turned (fun k => k = v.pb ∨ k = v.vb) W X → X.cell? ⟨w.heap.size, 0, none⟩ = some (.pointer (some ⟨o, 0, none⟩)) ∧ X.cell? ⟨o, 2, none⟩ = some (.slice v.pa ws.length v.pc) ∧ X.cell? ⟨o, 8, none⟩ = some (.slice (some ⟨v.vb, 0, none⟩) ws.length ws.length) := fun X hX => by
  obtain ⟨o1, o2, o3, o4⟩ := h.own
  obtain ⟨d1, d2, d3, _⟩ := h.c.dis
  have hb := hX.old h.c.box (fun e => e.elim (fun e => d1 e) (fun e => d3 e))
  exact ⟨Boxed.cell (hX.old h.bP (by rintro (e | e) <;> omega)), heap_cell hb rfl, heap_cell hb rfl⟩
end
theorem turnedFrom {B : Nat} {X Y : World} {row : Option Nat} (hB : B ≤ X.heap.size) (hg : X.grownBy Y row) (hr : ∀ r, row = some r → B ≤ r) : Turned (fun k => B ≤ k) X Y := by
  have h := (Below.refl B X).grown hg hB hr
  exact ⟨h.os, h.tape, h.output, h.size, fun k _ hn => h.block k (by omega)⟩
theorem MvR.grow {v : PsV} {n₀ up o : Nat} {ws : List Int} {F : Nat → Nat → Int} {m : Nat → Int} {mv : Nat → Bool} {G : Nat → Int} {b0 b1 h0 h1 : Int} {w W W' : World} {q4 : Nat} {fr : Int} (h : MvR v n₀ up o ws F m mv G b0 b1 h0 h1 w q4 fr W) {B : Nat} (hB : q4 < B) (ht : Turned (fun k => B ≤ k) W W') : MvR v n₀ up o ws F m mv G b0 b1 h0 h1 w q4 fr W' := by
  have hl := h.lt4
  obtain ⟨o1, o2, o3, o4⟩ := h.own
  have hu := h.c.ups.1
  refine ⟨h.c.heap ht (fun k hk => by omega), ht.old h.bP (by omega), ht.old h.b4 (by omega), h.lt4, h.own, ⟨ht.os.trans h.turned.os, ht.tape.trans h.turned.tape, ht.output.trans h.turned.output, Nat.le_trans h.turned.size ht.size, fun c h1 h2 => (ht.block c (Nat.lt_of_lt_of_le h1 h.turned.size) (by omega)).trans (h.turned.block c h1 h2)⟩⟩
set_option maxRecDepth 100000 in
set_option maxHeartbeats 4000000 in
theorem move_any {v : PsV} {n₀ up o : Nat} {ws : List Int} {F : Nat → Nat → Int} {m : Nat → Int} {mv : Nat → Bool} {G : Nat → Int} {b H : Int → Int} {w : World} (h : PsR v n₀ up o ws F m mv G b H w) (hn0 : n₀ ≤ up) {i : Nat} (hi : i < ws.length) (hm : mv i = false) :
    Calls Try.prog 76 #[.pointer (some ⟨o, 0, none⟩), .int .i64 (i : Int)] w fun e w' => (∃ u, e = .returned u) ∧ (∃ G' H', PsR v n₀ up o ws F (flipM m i) (fun c => if c = i then true else mv c) G' b H' w') ∧ Turned (PsB v o) w w' := by
  have hown : o < w.heap.size ∧ v.pb < w.heap.size ∧ v.gb < w.heap.size ∧ v.vb < w.heap.size := ⟨heap_lt h.box, h.part.lt (by omega), h.gain.lt (by omega), h.moved.lt (by omega)⟩
  have b0 : Below w.heap.size w (w.alloc (.cells #[.pointer (some ⟨o, 0, none⟩)] 118)) := (Below.refl _ w).alloc (Nat.le_refl _) _
  have HC1 : Hid (PsC v n₀ up o ws F m mv G (b 0) (b 1) (H 0) (H 1) (w.alloc (.cells #[.pointer (some ⟨o, 0, none⟩)] 118))) := Lib.hid (h.cells.heap (R := fun _ => False) ⟨b0.os, b0.tape, b0.output, b0.size, fun k hk _ => b0.block k hk⟩ (fun _ e => e.elim))
  have HP1 : Hid (Boxed (w.alloc (.cells #[.pointer (some ⟨o, 0, none⟩)] 118)) w.heap.size 118 (.pointer (some ⟨o, 0, none⟩))) := Lib.hid (Boxed.new w _ _)
  have HN := Lib.hid h.num
  have h2 := h.num.two i hi
  have hpa := h.pa.resolve_left (by omega)
  have HB0 := Lib.hid b0
  have hz1 : (w.alloc (.cells #[.pointer (some ⟨o, 0, none⟩)] 118)).heap.size = w.heap.size + 1 := by simp
  have hin : (i : Int) < (ws.length : Int) := by omega
  have hi0 : (0 : Int) ≤ (i : Int) := by omega
  clear h b0
  refine (callsIn_wide (n := 3)).1 ?_
  refine callsIn_of_wp_marks Try.func76 rfl trivial ?_ rfl
  simp only [Try.ntmps76, List.size_toArray, List.length_cons, List.length_nil, Nat.reduceAdd, Nat.reduceSub, Array.replicate_succ, Array.replicate_zero, List.push_toArray, List.append_toArray, List.nil_append, List.cons_append]
  refine wpIn_wide.2 ?_
  go_upto_region 1 with fail
  obtain ⟨w1, hw1⟩ : ∃ w1, (w.alloc (.cells #[.pointer (some ⟨o, 0, none⟩)] 118)) = w1 := ⟨_, rfl⟩
  rw [hw1] at HC1 HP1 HB0 hz1 ⊢
  have HZ1 := Lib.hid hz1
  obtain ⟨mi, hmi⟩ : ∃ x, m i = x := ⟨_, rfl⟩
  rw [hmi] at h2
  have HMi := Lib.hid hmi
  clear hw1 hz1 hmi
  go_cut [4, 5] from 8 to 22 (fun s4 s5 wx => ∃ b4, s4 = .pointer (some ⟨b4, 0, none⟩) ∧ s5 = .int .i64 (1 - mi) ∧ Hid (w1.heap.size ≤ b4 ∧ Boxed wx b4 3 (.int .i64 mi) ∧ Below w1.heap.size w1 wx))
  case first =>
    have HX := Lib.hid (fun W (hW : Below w1.heap.size w1 W) => And.intro (show W.cell? ⟨w.heap.size, 0, none⟩ = some (.pointer (some ⟨o, 0, none⟩)) from Boxed.cell (heap_below HP1.out hW (heap_lt HP1.out))) (And.intro (show W.cell? ⟨o, 2, none⟩ = some (.slice (some ⟨v.pb, 0, none⟩) ws.length v.pc) from by rw [← hpa]; exact heap_cell (heap_below HC1.out.box hW (heap_lt HC1.out.box)) rfl) (show W.cell? ⟨v.pb, i, none⟩ = some (.int .i64 mi) from by rw [← HMi.out]; exact (HC1.out.part.below hW (.inr (by have := HZ1.out; omega))).cell hi)))
    clear HC1 HP1 HN HB0 hown
    generalize ws.length = n at *
    have hw0 : IntKind.i64.wrap (1 - mi) = 1 - mi := IntWalk.i64_in _ (by rcases h2 with rfl | rfl <;> omega)
    have hX0 : ∀ W, Below w1.heap.size w1 W → W.cell? ⟨w.heap.size, 0, none⟩ = some (.pointer (some ⟨o, 0, none⟩)) := fun W hW => (HX.out W hW).1
    have hX1 : ∀ W, Below w1.heap.size w1 W → W.cell? ⟨o, 2, none⟩ = some (.slice (some ⟨v.pb, 0, none⟩) n v.pc) := fun W hW => (HX.out W hW).2.1
    have hX2 : ∀ W, Below w1.heap.size w1 W → W.cell? ⟨v.pb, i, none⟩ = some (.int .i64 mi) := fun W hW => (HX.out W hW).2.2
    have hA0 : (w1.alloc (.cells #[.int .i64 0] 3)).cell? ⟨w1.heap.size, 0, none⟩ = some (.int .i64 0) := Boxed.cell (Boxed.new w1 3 (.int .i64 0))
    have hA1 : (w1.alloc (.cells #[.int .i64 0] 3)).frozen? ⟨w1.heap.size, 0, none⟩ = false := Boxed.frozen (Boxed.new w1 3 (.int .i64 0))
    have hA2 : (w1.alloc (.cells #[.int .i64 0] 3)).drew.cell? ⟨w1.heap.size, 0, none⟩ = some (.int .i64 0) := hA0
    have hA3 : (w1.alloc (.cells #[.int .i64 0] 3)).drew.frozen? ⟨w1.heap.size, 0, none⟩ = false := hA1
    clear h2
    go_region_held3 (fun W => Below w1.heap.size w1 W) (first | assumption | exact Below.refl _ _ | exact (Below.refl _ _).drew | exact Below.drew (by assumption) | exact (Below.refl _ _).alloc (Nat.le_refl _) _ | exact ((Below.refl _ _).alloc (Nat.le_refl _) _).drew | exact (show Below w1.heap.size w1 _ by assumption).alloc (Nat.le_refl _) _ | exact (show Below w1.heap.size w1 _ by assumption).setCell (p := ⟨_, 0, none⟩) (Nat.le_refl _) _) (fail)
    all_goals
      go_wp2
      go_meet
      exact ⟨_, rfl, rfl, Lib.hid ⟨Nat.le_refl _, Boxed.new w1 3 (.int .i64 mi), ((Below.refl _ _).alloc (Nat.le_refl _) _).drew⟩⟩
  case rest =>
    obtain ⟨q4, rfl, rfl, HQ⟩ := hcut
    obtain ⟨hq4, hB4, hbx⟩ := HQ.out
    have hz1 := HZ1.out
    have HV2 : Hid (MvR v n₀ up o ws F m mv G (b 0) (b 1) (H 0) (H 1) w q4 mi wc) := Lib.hid ⟨HC1.out.heap (R := fun _ => False) ⟨hbx.os, hbx.tape, hbx.output, hbx.size, fun k hk _ => hbx.block k hk⟩ (fun _ e => e.elim), heap_below HP1.out hbx (heap_lt HP1.out), hB4, by omega, hown, ⟨(HB0.out.trans (hbx.mono (by omega))).os, (HB0.out.trans (hbx.mono (by omega))).tape, (HB0.out.trans (hbx.mono (by omega))).output, (HB0.out.trans (hbx.mono (by omega))).size, fun k hk _ => (HB0.out.trans (hbx.mono (by omega))).block k hk⟩⟩
    clear HC1 HP1 HB0 HZ1 HQ hq4 hB4 hbx hz1 hown
    generalize wc = w2 at *
    go_upto_region 2 with fail
    go_cut [5] from 23 to 35 (fun s5 wx => s5 = .int .i64 (1 - mi) ∧ Hid (MvR v n₀ up o ws F (upd m i (1 - mi)) (fun c => if c = i then true else mv c) G (b 0) (b 1) (H 0) (H 1) w q4 mi wx))
    case first =>
      have HS3 := Lib.hid (HV2.out.setPart hi (1 - mi))
      have HS4 := Lib.hid (HS3.out.setMoved hi true)
      have HS5 := Lib.hid (HV2.out.setMoved hi true)
      have hr := Lib.hid HV2.out.reads
      have hX0 : ∀ W, Turned (fun k => k = v.pb ∨ k = v.vb) w2 W → W.cell? ⟨w.heap.size, 0, none⟩ = some (.pointer (some ⟨o, 0, none⟩)) := fun W hW => (hr.out W hW).1
      have hX1 : ∀ W, Turned (fun k => k = v.pb ∨ k = v.vb) w2 W → W.cell? ⟨o, 2, none⟩ = some (.slice (some ⟨v.pb, 0, none⟩) ws.length v.pc) := fun W hW => by rw [← hpa]; exact (hr.out W hW).2.1
      have hX2 : ∀ W, Turned (fun k => k = v.pb ∨ k = v.vb) w2 W → W.cell? ⟨o, 8, none⟩ = some (.slice (some ⟨v.vb, 0, none⟩) ws.length ws.length) := fun W hW => (hr.out W hW).2.2
      have f0 : w2.cell? ⟨v.pb, i, none⟩ = some (.int .i64 (m i)) := HV2.out.c.part.cell hi
      have f1 : w2.frozen? ⟨v.pb, i, none⟩ = false := HV2.out.c.part.frozen (by omega) i
      have f2 : (w2.setCell ⟨v.pb, i, none⟩ (.int .i64 (1 - mi))).cell? ⟨v.vb, i, none⟩ = some (.bool (mv i)) := HS3.out.c.moved.cell hi
      have f3 : (w2.setCell ⟨v.pb, i, none⟩ (.int .i64 (1 - mi))).frozen? ⟨v.vb, i, none⟩ = false := HS3.out.c.moved.frozen (by omega) i
      have g0 : w2.drew.cell? ⟨v.pb, i, none⟩ = some (.int .i64 (m i)) := f0
      have g1 : w2.drew.frozen? ⟨v.pb, i, none⟩ = false := f1
      have g2 : (w2.drew.setCell ⟨v.pb, i, none⟩ (.int .i64 (1 - mi))).cell? ⟨v.vb, i, none⟩ = some (.bool (mv i)) := f2
      have g3 : (w2.drew.setCell ⟨v.pb, i, none⟩ (.int .i64 (1 - mi))).frozen? ⟨v.vb, i, none⟩ = false := f3
      clear HV2 HS3 HS5 HN
      go_region_held3 (fun W => Turned (fun k => k = v.pb ∨ k = v.vb) w2 W) (first | assumption | exact Turned.refl' _ _ | exact (Turned.refl' _ _).drewT | exact Turned.drewT (by assumption) | exact (show Turned (fun k => k = v.pb ∨ k = v.vb) w2 _ by assumption).setT (.inl rfl) _ _ | exact (show Turned (fun k => k = v.pb ∨ k = v.vb) w2 _ by assumption).setT (.inr rfl) _ _) (fail)
      all_goals
        go_wp2
        go_meet
        exact ⟨rfl, Lib.hid (HS4.out.still ⟨rfl, rfl, rfl, rfl⟩)⟩
    case rest =>
      obtain ⟨rfl, HV3⟩ := hcut
      go_upto_region 3 with fail
      clear HV2
      generalize wc = w3 at *
      have hbd := HN.out.hbd
      have hxw := HN.out.wbd hi
      go_cut [5] from 36 to 52 (fun s5 wx => s5 = .int .i64 (1 - mi) ∧ Hid (MvR v n₀ up o ws F (upd m i (1 - mi)) (fun c => if c = i then true else mv c) G (b 0) (b 1) (if mi = 0 then H 0 - wsF ws i else H 0) (if mi = 0 then H 1 else H 1 - wsF ws i) w q4 mi wx))
      case first =>
        have cP := HV3.out.bP.cell
        have c4 := HV3.out.b4.cell
        have c0 := heap_cell HV3.out.c.box (i := 0) rfl
        have c5 := heap_cell HV3.out.c.box (i := 5) rfl
        have c6 := heap_cell HV3.out.c.box (i := 6) rfl
        have p3 := HV3.out.c.bg.wts.cell hi
        have hwa := HV3.out.c.bg.wa.resolve_left (by omega)
        simp only [List.getElem_toArray, List.getElem_cons_zero, List.getElem_cons_succ] at c0 c5 c6
        rw [hwa] at c0
        have HVd := Lib.hid (HV3.out.still (W' := w3.drew) ⟨rfl, rfl, rfl, rfl⟩)
        have d5 : w3.drew.cell? ⟨o, 5, none⟩ = some (.int .i64 (H 0)) := c5
        have d6 : w3.drew.cell? ⟨o, 6, none⟩ = some (.int .i64 (H 1)) := c6
        have f5 : w3.drew.frozen? ⟨o, 5, none⟩ = false := heap_frozen HVd.out.c.box 5
        have f6 : w3.drew.frozen? ⟨o, 6, none⟩ = false := heap_frozen HVd.out.c.box 6
        generalize wsF ws i = x at *
        clear HN
        rcases h2 with rfl | rfl
        · have hw := IntWalk.i64_in (H 0 - x) (by omega)
          have HE := Lib.hid ((HV3.out.setH0 (H 0 - x)).still (W' := (w3.setCell ⟨o, 5, none⟩ (.int .i64 (H 0 - x))).drew) ⟨rfl, rfl, rfl, rfl⟩)
          go_still_tail 17, (by kernel_rfl)
          change wpList _ _ _ _ _ w3.drew
          go_wp2
          go_meet
          exact ⟨rfl, Lib.hid (by simpa using HE.out)⟩
        · have hw := IntWalk.i64_in (H 1 - x) (by omega)
          have HE := Lib.hid ((HV3.out.setH1 (H 1 - x)).still (W' := (w3.setCell ⟨o, 6, none⟩ (.int .i64 (H 1 - x))).drew) ⟨rfl, rfl, rfl, rfl⟩)
          go_still_tail 17, (by kernel_rfl)
          change wpList _ _ _ _ _ w3.drew
          go_wp2
          go_meet
          exact ⟨rfl, Lib.hid (by simpa using HE.out)⟩
      case rest =>
        obtain ⟨rfl, HV4⟩ := hcut
        go_upto_region 4 with fail
        clear HV3
        generalize wc = w4 at *
        go_cut [5] from 53 to 69 (fun s5 wx => s5 = .int .i64 (1 - mi) ∧ Hid (MvR v n₀ up o ws F (upd m i (1 - mi)) (fun c => if c = i then true else mv c) G (b 0) (b 1) (if mi = 0 then H 0 - wsF ws i else H 0 + wsF ws i) (if mi = 0 then H 1 + wsF ws i else H 1 - wsF ws i) w q4 mi wx))
        case first =>
          have cP := HV4.out.bP.cell
          have c0 := heap_cell HV4.out.c.box (i := 0) rfl
          have c5 := heap_cell HV4.out.c.box (i := 5) rfl
          have c6 := heap_cell HV4.out.c.box (i := 6) rfl
          have p3 := HV4.out.c.bg.wts.cell hi
          have hwa := HV4.out.c.bg.wa.resolve_left (by omega)
          simp only [List.getElem_toArray, List.getElem_cons_zero, List.getElem_cons_succ] at c0 c5 c6
          rw [hwa] at c0
          have HVd := Lib.hid (HV4.out.still (W' := w4.drew) ⟨rfl, rfl, rfl, rfl⟩)
          have f5 : w4.drew.frozen? ⟨o, 5, none⟩ = false := heap_frozen HVd.out.c.box 5
          have f6 : w4.drew.frozen? ⟨o, 6, none⟩ = false := heap_frozen HVd.out.c.box 6
          generalize wsF ws i = x at *
          clear HN
          rcases h2 with rfl | rfl
          · simp only [if_true] at c5 c6
            have d6 : w4.drew.cell? ⟨o, 6, none⟩ = some (.int .i64 (H 1)) := c6
            have hw := IntWalk.i64_in (H 1 + x) (by omega)
            have HE := Lib.hid ((HV4.out.setH1 (H 1 + x)).still (W' := (w4.setCell ⟨o, 6, none⟩ (.int .i64 (H 1 + x))).drew) ⟨rfl, rfl, rfl, rfl⟩)
            go_still_tail 17, (by kernel_rfl)
            change wpList _ _ _ _ _ w4.drew
            go_wp2
            go_meet
            exact ⟨rfl, Lib.hid (by simpa using HE.out)⟩
          · simp only [show ¬ ((1 : Int) = 0) by decide, if_false] at c5 c6
            have d5 : w4.drew.cell? ⟨o, 5, none⟩ = some (.int .i64 (H 0)) := c5
            have hw := IntWalk.i64_in (H 0 + x) (by omega)
            have HE := Lib.hid ((HV4.out.setH0 (H 0 + x)).still (W' := (w4.setCell ⟨o, 5, none⟩ (.int .i64 (H 0 + x))).drew) ⟨rfl, rfl, rfl, rfl⟩)
            go_still_tail 17, (by kernel_rfl)
            change wpList _ _ _ _ _ w4.drew
            go_wp2
            go_meet
            exact ⟨rfl, Lib.hid (by simpa using HE.out)⟩
        case rest =>
          obtain ⟨rfl, HV5⟩ := hcut
          clear HV4
          generalize wc = w5 at *
          generalize hhh0 : (if mi = 0 then H 0 - wsF ws i else H 0 + wsF ws i) = hh0 at *
          generalize hhh1 : (if mi = 0 then H 1 + wsF ws i else H 1 - wsF ws i) = hh1 at *
          have HH0 := Lib.hid hhh0
          have HH1 := Lib.hid hhh1
          clear hhh0 hhh1
          have cP := HV5.out.bP.cell
          have c1 := heap_cell HV5.out.c.box (i := 1) rfl
          simp only [List.getElem_toArray, List.getElem_cons_zero, List.getElem_cons_succ] at c1
          have hna := HV5.out.c.bg.na.resolve_left (by omega)
          rw [hna] at c1
          obtain ⟨ne, hnr, hsq⟩ := HV5.out.c.bg.near
          have cN := hnr.cell hi
          have hsu := (hsq i hi).1
          obtain ⟨lb, hu, hst⟩ := hsu.stopsP 2
          rw [hu] at cN
          have hq4 := heap_lt HV5.out.b4
          have hl4 := HV5.out.lt4
          have hown := HV5.out.own
          have hups := HV5.out.c.ups
          clear hnr hsq hsu hu
          have HTab := Lib.hid HN.out.tab
          have hsm := HN.out.small
          have HMEM : Hid (∀ x ∈ rowOf ws.length (F i), (∃ b : Nat, x.1 = (b : Int) ∧ b < ws.length) ∧ 0 ≤ x.2 ∧ x.2 ≤ 1099511627776) := Lib.hid (fun x hx => by
            obtain ⟨b, h1, h2, rfl⟩ := mem_rowOf.1 hx
            exact ⟨⟨b, rfl, h1⟩, by show 0 ≤ F i b; omega, HTab.out.hi i b⟩)
          have HLen : Hid ((rowOf ws.length (F i)).length ≤ ws.length) := Lib.hid (rowOf_length _ _)
          have HGb : Hid (∀ c, c < ws.length → - 22517998136852480 ≤ G c ∧ G c ≤ 22517998136852480) := Lib.hid (fun c hc => by
            obtain ⟨d, h1, _, h3, h4⟩ := HN.out.gain c hc
            have := tG_bd HTab.out m c
            omega)
          go_wp2
          refine (wpIn_wide (n := 3)).1 ?_
          refine wpIn_rangeFunc_ownG rfl (by omega) (gf := 91) (lb := lb) rfl trivial (enters_of Try.func91 (by kernel_rfl) rfl)
            hst.stopsF belowK_t (belowK_b (by omega)) (Below.refl _ _) (fun _ => rfl)
            (fun pre W => MvR v n₀ up o ws F (upd m i (1 - mi)) (fun c => if c = i then true else mv c) (trnS (upd m i (1 - mi)) mi G (pre.map (rowOf ws.length (F i)).get)) (b 0) (b 1) hh0 hh1 w q4 mi W ∧ w5.heap.size ≤ W.heap.size)
            (fun _ _ _ => False)
            (fun s X Y row hs hg hr => ⟨hs.1.grow hq4 (turnedFrom hs.2 hg (fun r e => (hr r e).1)), Nat.le_trans hs.2 hg.size⟩)
            (fun _ _ _ _ _ hs _ _ => hs)
            ⟨HV5.out, Nat.le_refl _⟩
            ?_ ?assign ?body ?done ?stop
          case assign =>
            intro l x W K hK
            unfold encP
            gi_wp2
            exact hK
          case body =>
            rintro l pre x W ⟨hM, hzW⟩ hlt
            obtain ⟨⟨c, hb1, hb2⟩, hx0, hx1⟩ := HMEM.out _ (List.getElem_mem x.isLt)
            have hI : trnS (upd m i (1 - mi)) mi G ((pre ++ [x]).map (rowOf ws.length (F i)).get) = trn1 (upd m i (1 - mi)) mi (trnS (upd m i (1 - mi)) mi G (pre.map (rowOf ws.length (F i)).get)) (rowOf ws.length (F i))[x.val] := by
              rw [List.map_append, List.map_cons, List.map_nil, trnS_snoc, List.get_eq_getElem]
            have hbd2 := trnS_bd (upd m i (1 - mi)) mi c (pre.map (rowOf ws.length (F i)).get) G 22517998136852480 (HGb.out c hb2) (fun y hy => by
              obtain ⟨j, _, rfl⟩ := List.mem_map.1 hy
              exact (HMEM.out _ (List.getElem_mem j.isLt)).2)
            rw [List.length_map] at hbd2
            have hll := HLen.out
            have HI := Lib.hid hI
            clear hI hst cP c1 cN HN
            generalize trnS (upd m i (1 - mi)) mi G (pre.map (rowOf ws.length (F i)).get) = gs at *
            generalize (rowOf ws.length (F i))[x.val] = p at *
            obtain ⟨p1, p2⟩ := p
            simp only at hb1 hx0 hx1
            subst hb1
            have hbb : (c : Int) < (ws.length : Int) := by omega
            have hb0 : (0 : Int) ≤ (c : Int) := by omega
            have cP := hM.bP.cell
            have c4 := hM.b4.cell
            have c2 := heap_cell hM.c.box (i := 2) rfl
            simp only [List.getElem_toArray, List.getElem_cons_zero, List.getElem_cons_succ] at c2
            rw [hpa] at c2
            have cb := hM.c.part.cell hb2
            have HM := Lib.hid hM
            have HT1 := Lib.hid (show trn1 (upd m i (1 - mi)) mi gs ((c : Int), p2) = upd gs c (if upd m i (1 - mi) c = mi then gs c + 2 * p2 else gs c - 2 * p2) from by unfold trn1; simp only [Int.toNat_natCast])
            clear hM
            obtain ⟨y, hy⟩ : ∃ y, upd m i (1 - mi) c = y := ⟨_, rfl⟩
            rw [hy] at cb HT1
            obtain ⟨s, hs⟩ : ∃ s, gs c = s := ⟨_, rfl⟩
            rw [hs] at HT1 hbd2
            have HS := Lib.hid hs
            clear hy hs
            have hw2 : IntKind.i64.wrap (2 * p2) = 2 * p2 := IntWalk.i64_in _ (by omega)
            have hw3 : IntKind.i64.wrap (s + 2 * p2) = s + 2 * p2 := IntWalk.i64_in _ (by omega)
            have hw4 : IntKind.i64.wrap (s - 2 * p2) = s - 2 * p2 := IntWalk.i64_in _ (by omega)
            gi_wp2
            refine region_round_quiet rfl (by kernel_rfl) rfl (by kernel_rfl) ?_
            repeat (gi_big_quiet_step (fail))
            refine wpQuietIn_nil ?_
            intro _ hw'
            obtain ⟨nr, rfl⟩ := hw'
            clear cP c4 c2 cb
            have Hst : Hid (KeepsOthers W (W.drewN nr) ∧ Below n₀ W (W.drewN nr) ∧ MvR v n₀ up o ws F (upd m i (1 - mi)) (fun c => if c = i then true else mv c) gs (b 0) (b 1) hh0 hh1 w q4 mi (W.drewN nr) ∧ w5.heap.size ≤ (W.drewN nr).heap.size) := Lib.hid ⟨⟨Nat.le_refl _, fun _ _ h _ => h⟩, ⟨rfl, rfl, rfl, Nat.le_refl _, fun _ _ => rfl⟩, HM.out.still ⟨rfl, rfl, rfl, rfl⟩, hzW⟩
            generalize W.drewN nr = W1 at *
            have e1 := Hst.out.2.2.1.bP.cell
            have e2 := heap_cell Hst.out.2.2.1.c.box (i := 7) rfl
            simp only [List.getElem_toArray, List.getElem_cons_zero, List.getElem_cons_succ] at e2
            have e3 := Hst.out.2.2.1.c.gain.cell hb2
            have e4 := Hst.out.2.2.1.c.gain.frozen (by omega) c
            rw [HS.out] at e3
            by_cases h1 : y = mi
            · have h1b : ((y : Int) == mi) = true := by simpa using h1
              have HR := Lib.hid (HI.out.trans (HT1.out.trans (by rw [if_pos h1])))
              gi_wp2
              exact ⟨(Hst.out.1.trans (KeepsOthers.setCell _ _ _)).from _, Hst.out.2.1.setCell (p := ⟨v.gb, c, none⟩) (by show n₀ ≤ v.gb; omega) _, by rw [HR.out]; exact Hst.out.2.2.1.setGain hb2 _, by simpa using Hst.out.2.2.2⟩
            · have h1b : ((y : Int) == mi) = false := by simpa using h1
              have HR := Lib.hid (HI.out.trans (HT1.out.trans (by rw [if_neg h1])))
              gi_wp2
              exact ⟨(Hst.out.1.trans (KeepsOthers.setCell _ _ _)).from _, Hst.out.2.1.setCell (p := ⟨v.gb, c, none⟩) (by show n₀ ≤ v.gb; omega) _, by rw [HR.out]; exact Hst.out.2.2.1.setGain hb2 _, by simpa using Hst.out.2.2.2⟩
          case done =>
            rintro E ys W hD rfl ⟨hM, hzW⟩ hK
            rw [get_finRange] at hM
            go_wp2
            have hMe := hM.grow hq4 (turnedFrom hzW (grownBy_putObj' W E (.deferred none)) (fun r e => by cases e; exact hD))
            have hNe := HN.out.moved hi hm
            refine ⟨by simp, .inl ⟨_, _, rfl, run_takeDeferred hK, ?_⟩⟩
            refine ⟨_, by simp [results, Try.f76, go_sem]; rfl, ⟨_, rfl⟩, ?_, hMe.turned⟩
            have hmi := HMi.out
            subst hmi
            have k0 : (if (0 : Int) = m i then H 0 - wsF ws i else H 0 + wsF ws i) = hh0 := by
              rw [← HH0.out]
              rcases h2 with e | e <;> rw [e] <;> simp
            have k1 : (if (1 : Int) = m i then H 1 - wsF ws i else H 1 + wsF ws i) = hh1 := by
              rw [← HH1.out]
              rcases h2 with e | e <;> rw [e] <;> simp
            exact ⟨_, _, by rw [k0, k1]; exact hMe.c.box, hMe.c.bg, hMe.c.pa, hMe.c.part, hMe.c.gain, hMe.c.moved, hMe.c.ups, hMe.c.dis, hNe⟩
          case stop =>
            rintro E c pre W hD hpre h hK
            exact h.elim
end Go.Proofs.Ytjpgkocffceeoaa

namespace Go.Proofs.Ytjpgkocffceeoaa
open Go.RowKit Go.Shelf Rk

theorem IsSeq.up {W : World} {u : Value} {n₀ : Nat} {D : List (Int × Int)} (h : IsSeq W u n₀ D) {up : Nat} (hu : W.heap.size ≤ up) : SeqU W u n₀ up D := by
  have h' := h
  obtain ⟨B1, B2, p, t, s, h1, h2, h3, h4, h5, h6, h7, h8⟩ := h'
  refine ⟨h, Nat.le_trans h8 hu, fun g C1 C2 e => ?_⟩
  rw [h1] at e
  cases e
  have := heap_lt h2
  have := heap_lt h3
  omega
theorem near_seq {w0 w : World} {g nb : Nat} {ws : List Int} {F : Nat → Nat → Int} {k : Nat} (hk : k < ws.length) (h0 : IsG w0 g nb ws F) (hb : Below w0.heap.size w0 w) :
    Calls Try.prog 49 #[.pointer (some ⟨g, 0, none⟩), .int .i64 (k : Int)] w (SeqPost w0.heap.size (rowOf ws.length (F k)) w) := by
  have h := h0.below hb
  have HH := Lib.hid (has_any h (k : Int))
  rw [hasN_nat hk] at HH
  have HAll := Lib.hid (mall_any (h0.map k hk) hb (Nat.le_trans (rowOf_length _ _) (by have := h0.small; omega)))
  obtain ⟨wa, wc, wb, h1, h2⟩ := h.box
  have c0 : w.cell? ⟨g, 1, none⟩ = some (.slice (some ⟨nb, 0, none⟩) ws.length ws.length) := heap_cell h1 rfl
  have hsm := h.small
  clear h h1 h2 h0 hb
  generalize rowOf ws.length (F k) = D at *
  generalize ws.length = n at *
  go_enter Try.func49, Try.ntmps49
  go_wp2_with (go_at_call 57; refine HH.out.mono ?_; rintro e w' ⟨rfl, rfl⟩)
  refine HAll.out.mono ?_
  rintro e w1 ⟨v, rfl, hsq, hB, hnw⟩
  have HE := Lib.hid (show SeqPost _ D w (.returned v) w1 from ⟨v, rfl, hsq, hB, hnw⟩)
  clear hsq hB hnw
  go_wp2
  go_ret
  exact HE.out
end Go.Proofs.Ytjpgkocffceeoaa

namespace Go.Proofs.Ytjpgkocffceeoaa
open Go.RowKit Go.Shelf Rk

attribute [local go_sem] Oper.semAt_some

theorem Try.infoBl : (Try.prog.info? 4).map (fun i => (i.zero, i.size, i.bytes)) = some (some (.bool false), 1, 1) := by kernel_rfl
theorem madeBool (w : World) (n : Nat) (hn : n ≤ 4096) :
    (Instr.makeSlice 114 (.int .i64 (n : Int)) (.int .i64 (n : Int))).run Try.prog w = .ok (.slice (some ⟨w.heap.size, 0, none⟩) n n) (w.alloc (.cells (madeCells #[.bool false] n) 4)) := by
  obtain ⟨i0, hi, hz0, hz1, hz2⟩ := info_parts Try.infoBl
  have h := run_make (P := Try.prog) w 114 4 i0 _ Try.underlying114 hi hz0 .i64 .i64 n n (by omega) (Int.le_refl _) (by rw [hz2]; omega) (by omega)
  rw [hz1, show (Value.bool false).cells = #[Value.bool false] from rfl] at h
  simp only [Int.toNat_natCast, Nat.mul_one] at h
  rw [h]
theorem own_bools (w : World) (n : Nat) : OwR (w.alloc (.cells (madeCells #[.bool false] n) 4)) w.heap.size 4 n (fun _ => .bool false) :=
  ⟨.inr ⟨_, heap_new (w := w) _ rfl, fun i hi => by
    have hs : i < (madeCells #[Value.bool false] n).size := by simp [size_madeCells]; omega
    rw [Array.getElem?_eq_getElem hs]
    simp [madeCells, Nat.mod_one]⟩⟩
theorem own_rows (w : World) (n : Nat) : OwR (w.alloc (.cells (rowC n (noTab 0)) 2)) w.heap.size 2 n (fun _ => .int .i64 0) :=
  ⟨.inr ⟨_, heap_new (w := w) _ rfl, fun i hi => rowC_at (noTab 0) hi⟩⟩
theorem IntsAt.own {B : Nat} {w : World} {a : Option Addr} {b len : Nat} {zs : List Int} (h : IntsAt .i64 B w a b 0 len zs) (hb : len = 0 ∨ ∃ cur, w.heap[b]? = some (.cells cur 3 (0, 0))) : OwR w b 3 len (fun i => .int .i64 (zs.getD i 0)) := by
  rcases hb with e | ⟨cur, hc⟩
  · exact ⟨.inl e⟩
  · refine ⟨.inr ⟨cur, hc, fun i hi => ?_⟩⟩
    have := h.cell i hi
    simpa [World.cell?, hc] using this
theorem BgR.mono {v v' : PsV} {n₀ up up' : Nat} {ws : List Int} {F : Nat → Nat → Int} {W : World} (h : BgR v n₀ up ws F W) (hu : up ≤ up') (e1 : v'.wa = v.wa) (e2 : v'.wb = v.wb) (e3 : v'.na = v.na) (e4 : v'.nb = v.nb) : BgR v' n₀ up' ws F W := by
  obtain ⟨ne, h1, h2⟩ := h.near
  refine ⟨by rw [e1, e2]; exact h.wa, by rw [e2]; exact h.wts, by rw [e2]; exact h.wlt.imp id (fun g => by omega), by rw [e3, e4]; exact h.na, by rw [e4]; exact h.nlt.imp id (fun g => by omega), ne, by rw [e4]; exact h1, fun a ha => ?_⟩
  obtain ⟨k1, k2, k3⟩ := h2 a ha
  exact ⟨k1, by omega, fun g B1 B2 e => by have := k3 g B1 B2 e; omega⟩
def hvK (ws m : Nat → Int) (t : Int) (k : Nat) : Int := sumTo k (fun b => if m b = t then ws b else 0)
theorem hvK_bd {ws : List Int} (hw : ∀ x ∈ ws, 1 ≤ x ∧ x ≤ 1099511627776) (m : Nat → Int) (t : Int) : ∀ k, k ≤ ws.length → 0 ≤ hvK (wsF ws) m t k ∧ hvK (wsF ws) m t k ≤ 1099511627776 * (k : Int) := fun k => by
  induction k with
  | zero => intro _; simp [hvK, sumTo]
  | succ k ih =>
    intro hk
    have h1 := ih (by omega)
    have h2 := hw _ (List.getElem_mem (show k < ws.length by omega))
    have h3 : wsF ws k = ws[k] := by
      unfold wsF
      rw [List.getD_eq_getElem?_getD, List.getElem?_eq_getElem (by omega)]; rfl
    have e : hvK (wsF ws) m t (k + 1) = hvK (wsF ws) m t k + (if m k = t then wsF ws k else 0) := rfl
    rw [e, h3]
    split <;> constructor <;> omega
theorem PsC.ask {v : PsV} {n₀ up o : Nat} {ws : List Int} {F : Nat → Nat → Int} {m : Nat → Int} {mv : Nat → Bool} {G : Nat → Int} {b0 b1 h0 h1 : Int} {W : World} (h : PsC v n₀ up o ws F m mv G b0 b1 h0 h1 W) (ht : Tab ws.length F) (hs : ws.length ≤ 4096) : AskR v n₀ up o ws F m W :=
  ⟨heap_cell h.box rfl, heap_cell h.box rfl, heap_lt h.box, h.bg, h.upz, h.pa, h.part, ht, hs⟩
theorem PsC.onB {v : PsV} {n₀ up o : Nat} {ws : List Int} {F : Nat → Nat → Int} {m : Nat → Int} {mv : Nat → Bool} {G : Nat → Int} {b0 b1 h0 h1 : Int} {W W' : World} (h : PsC v n₀ up o ws F m mv G b0 b1 h0 h1 W) (hb : Below W.heap.size W W') : PsC v n₀ up o ws F m mv G b0 b1 h0 h1 W' :=
  h.heap (R := fun _ => False) ⟨hb.os, hb.tape, hb.output, hb.size, fun k hk _ => hb.block k hk⟩ (fun _ e => e.elim)
/-- Two passes over one graph. -/
def SamV (v v' : PsV) : Prop := v'.wa = v.wa ∧ v'.wb = v.wb ∧ v'.na = v.na ∧ v'.nb = v.nb
set_option maxRecDepth 100000 in
set_option maxHeartbeats 4000000 in
theorem again_any {v : PsV} {n₀ up : Nat} {ws : List Int} {F : Nat → Nat → Int} {w : World} {zs : List Int} (hbg : BgR v n₀ up ws F w) (hup : up ≤ w.heap.size) (hp : IntsAt .i64 w.heap.size w v.pa v.pb 0 ws.length zs) (hpn : v.pa = none → ws.length = 0 ∧ v.pc = 0)
    (h2 : ∀ i, i < ws.length → zs.getD i 0 = 0 ∨ zs.getD i 0 = 1) (ht : Tab ws.length F) (hs : ws.length ≤ 4096) (hw : ∀ x ∈ ws, 1 ≤ x ∧ x ≤ 1099511627776) (b0 b1 : Int) :
    Calls Try.prog 74 #[.agg #[.slice v.wa ws.length v.wc, .slice v.na ws.length v.nc, .slice v.pa ws.length v.pc, .int .i64 b0, .int .i64 b1, .int .i64 0, .int .i64 0, .slice none 0 0, .slice none 0 0]] w fun e w' =>
      ∃ v' o, e = .returned (.pointer (some ⟨o, 0, none⟩)) ∧ PsC v' n₀ w.heap.size o ws F (fun i => zs.getD i 0) (fun _ => false) (fun i => tG ws.length F (fun i => zs.getD i 0) i) b0 b1 (hvM ws.length (wsF ws) (fun i => zs.getD i 0) 0) (hvM ws.length (wsF ws) (fun i => zs.getD i 0) 1) w' ∧ Below w.heap.size w w' ∧ SamV v v' := by
  have bA : Below w.heap.size w (w.alloc (.cells #[.slice v.wa ws.length v.wc, .slice v.na ws.length v.nc, .slice v.pa ws.length v.pc, .int .i64 b0, .int .i64 b1, .int .i64 0, .int .i64 0, .slice none 0 0, .slice none 0 0] 116)) := (Below.refl _ w).alloc (Nat.le_refl _) _
  have hN1 : (w.alloc (.cells #[.slice v.wa ws.length v.wc, .slice v.na ws.length v.nc, .slice v.pa ws.length v.pc, .int .i64 b0, .int .i64 b1, .int .i64 0, .int .i64 0, .slice none 0 0, .slice none 0 0] 116)).heap[w.heap.size]? = some (.cells #[.slice v.wa ws.length v.wc, .slice v.na ws.length v.nc, .slice v.pa ws.length v.pc, .int .i64 b0, .int .i64 b1, .int .i64 0, .int .i64 0, .slice none 0 0, .slice none 0 0] 116 (0, 0)) := heap_new (w := w) _ rfl
  have HBA := Lib.hid bA
  have HN1 := Lib.hid hN1
  have hl := hp.length
  have HCl := Lib.hid (cloneI_any (cap := v.pc) ((hp.kept bA (Nat.le_refl _)).mono bA.size) hpn (by omega))
  have HBg := Lib.hid hbg
  have hz1 : w.heap.size < (w.alloc (.cells #[.slice v.wa ws.length v.wc, .slice v.na ws.length v.nc, .slice v.pa ws.length v.pc, .int .i64 b0, .int .i64 b1, .int .i64 0, .int .i64 0, .slice none 0 0, .slice none 0 0] 116)).heap.size := by simp
  clear bA hN1 hp hpn hbg
  go_enter Try.func74, Try.ntmps74
  go_upto_region 1 with fail
  generalize (w.alloc (.cells #[.slice v.wa ws.length v.wc, .slice v.na ws.length v.nc, .slice v.pa ws.length v.pc, .int .i64 b0, .int .i64 b1, .int .i64 0, .int .i64 0, .slice none 0 0, .slice none 0 0] 116)) = w1 at *
  have c2 := heap_cell HN1.out (i := 2) rfl
  simp only [List.getElem_toArray, List.getElem_cons_zero, List.getElem_cons_succ] at c2
  go_wp2_with fail
  refine HCl.out.mono ?_
  rintro e w2 ⟨pa', pb', pc', rfl, hcap, hI, hnew, hb, hnn, hcur⟩
  rw [hl] at hI hnew hcur ⊢
  have HN2 := Lib.hid (heap_below HN1.out hb (heap_lt HN1.out))
  have HB2 := Lib.hid (HBA.out.trans (hb.mono (by omega)))
  have HI2 := Lib.hid hI
  have HO2 := Lib.hid (IntsAt.own hI hcur)
  have c3 := heap_cell HN2.out (i := 2) rfl
  simp only [List.getElem_toArray, List.getElem_cons_zero, List.getElem_cons_succ] at c3
  have f3 := heap_frozen HN2.out 2
  have hz2 := hb.size
  clear c2 hI hcap hb hnn hcur HCl HN1 HBA
  go_upto_region 2 with fail
  have HN3 : Hid ((w2.setCell ⟨w.heap.size, 2, none⟩ (.slice pa' ws.length pc')).heap[w.heap.size]? = some (.cells #[.slice v.wa ws.length v.wc, .slice v.na ws.length v.nc, .slice pa' ws.length pc', .int .i64 b0, .int .i64 b1, .int .i64 0, .int .i64 0, .slice none 0 0, .slice none 0 0] 116 (0, 0))) := Lib.hid (by simpa using heap_set HN2.out 2 (.slice pa' ws.length pc'))
  have HB3 := Lib.hid (HB2.out.setCell (p := ⟨w.heap.size, 2, none⟩) (Nat.le_refl _) (.slice pa' ws.length pc'))
  have HO3 := Lib.hid (HO2.out.turned (Turned.set w2 w.heap.size 2 (.slice pa' ws.length pc')) (hnew.imp id (fun g e => by omega)))
  have hz3 : (w2.setCell ⟨w.heap.size, 2, none⟩ (.slice pa' ws.length pc')).heap.size = w2.heap.size := by simp
  have hpa2 := HI2.out.addr
  have hlt2 : ws.length = 0 ∨ pb' < w2.heap.size := by
    by_cases e : ws.length = 0
    · exact .inl e
    · exact .inr (HO2.out.lt (by omega))
  generalize (w2.setCell ⟨w.heap.size, 2, none⟩ (.slice pa' ws.length pc')) = w3 at *
  clear c3 f3 HI2 HO2 HN2 HB2
  have HZ3 := Lib.hid hz3
  clear hz3
  have c2 := heap_cell HN3.out (i := 2) rfl
  simp only [List.getElem_toArray, List.getElem_cons_zero, List.getElem_cons_succ] at c2
  have hmk := madeRow w3 ws.length hs
  have HN3a := Lib.hid (heap_alloc HN3.out (.cells (rowC ws.length (noTab 0)) 2))
  have e7 := heap_cell HN3a.out (i := 7) rfl
  simp only [List.getElem_toArray, List.getElem_cons_zero, List.getElem_cons_succ] at e7
  have f7 := heap_frozen HN3a.out 7
  have hw3 : w.heap.size < w3.heap.size := heap_lt HN3.out
  go_upto_region 3 with fail
  have hss : (w3.setCell ⟨w.heap.size, 7, none⟩ (.slice (some ⟨w3.heap.size, 0, none⟩) ws.length ws.length)).heap.size = w3.heap.size := by simp
  have HN4 : Hid (((w3.setCell ⟨w.heap.size, 7, none⟩ (.slice (some ⟨w3.heap.size, 0, none⟩) ws.length ws.length)).alloc (.cells (rowC ws.length (noTab 0)) 2)).heap[w.heap.size]? = some (.cells #[.slice v.wa ws.length v.wc, .slice v.na ws.length v.nc, .slice pa' ws.length pc', .int .i64 b0, .int .i64 b1, .int .i64 0, .int .i64 0, .slice (some ⟨w3.heap.size, 0, none⟩) ws.length ws.length, .slice none 0 0] 116 (0, 0))) := Lib.hid (heap_alloc (by simpa using heap_set HN3.out 7 (.slice (some ⟨w3.heap.size, 0, none⟩) ws.length ws.length)) _)
  have hba : Below w3.heap.size (w3.setCell ⟨w.heap.size, 7, none⟩ (.slice (some ⟨w3.heap.size, 0, none⟩) ws.length ws.length)) ((w3.setCell ⟨w.heap.size, 7, none⟩ (.slice (some ⟨w3.heap.size, 0, none⟩) ws.length ws.length)).alloc (.cells (rowC ws.length (noTab 0)) 2)) := (Below.refl _ _).alloc (by rw [hss]; exact Nat.le_refl _) _
  have HB4 := Lib.hid ((HB3.out.setCell (p := ⟨w.heap.size, 7, none⟩) (Nat.le_refl _) (.slice (some ⟨w3.heap.size, 0, none⟩) ws.length ws.length)).trans (hba.mono (by omega)))
  have HO4 := Lib.hid ((HO3.out.turned (Turned.set w3 w.heap.size 7 (.slice (some ⟨w3.heap.size, 0, none⟩) ws.length ws.length)) (hnew.imp id (fun g e => by omega))).below hba (hlt2.imp id (fun g => by rw [HZ3.out]; exact g)))
  have hg4 := own_rows (w3.setCell ⟨w.heap.size, 7, none⟩ (.slice (some ⟨w3.heap.size, 0, none⟩) ws.length ws.length)) ws.length
  rw [hss] at hg4
  have HG4 := Lib.hid hg4
  have hz4 : ((w3.setCell ⟨w.heap.size, 7, none⟩ (.slice (some ⟨w3.heap.size, 0, none⟩) ws.length ws.length)).alloc (.cells (rowC ws.length (noTab 0)) 2)).heap.size = w3.heap.size + 1 := by simp
  clear hg4 hss
  generalize ((w3.setCell ⟨w.heap.size, 7, none⟩ (.slice (some ⟨w3.heap.size, 0, none⟩) ws.length ws.length)).alloc (.cells (rowC ws.length (noTab 0)) 2)) = w4 at *
  have HZ4 := Lib.hid hz4
  clear c2 e7 f7 hmk HN3a hba HB3 HO3 HN3 hz4
  have c2 := heap_cell HN4.out (i := 2) rfl
  simp only [List.getElem_toArray, List.getElem_cons_zero, List.getElem_cons_succ] at c2
  have hmk := madeBool w4 ws.length hs
  have HN4a := Lib.hid (heap_alloc HN4.out (.cells (madeCells #[.bool false] ws.length) 4))
  have e8 := heap_cell HN4a.out (i := 8) rfl
  simp only [List.getElem_toArray, List.getElem_cons_zero, List.getElem_cons_succ] at e8
  have f8 := heap_frozen HN4a.out 8
  have hw4 : w.heap.size < w4.heap.size := heap_lt HN4.out
  go_upto_region 4 with fail
  have hss : (w4.setCell ⟨w.heap.size, 8, none⟩ (.slice (some ⟨w4.heap.size, 0, none⟩) ws.length ws.length)).heap.size = w4.heap.size := by simp
  have HN5 : Hid (((w4.setCell ⟨w.heap.size, 8, none⟩ (.slice (some ⟨w4.heap.size, 0, none⟩) ws.length ws.length)).alloc (.cells (madeCells #[.bool false] ws.length) 4)).heap[w.heap.size]? = some (.cells #[.slice v.wa ws.length v.wc, .slice v.na ws.length v.nc, .slice pa' ws.length pc', .int .i64 b0, .int .i64 b1, .int .i64 0, .int .i64 0, .slice (some ⟨w3.heap.size, 0, none⟩) ws.length ws.length, .slice (some ⟨w4.heap.size, 0, none⟩) ws.length ws.length] 116 (0, 0))) := Lib.hid (heap_alloc (by simpa using heap_set HN4.out 8 (.slice (some ⟨w4.heap.size, 0, none⟩) ws.length ws.length)) _)
  have hba : Below w4.heap.size (w4.setCell ⟨w.heap.size, 8, none⟩ (.slice (some ⟨w4.heap.size, 0, none⟩) ws.length ws.length)) ((w4.setCell ⟨w.heap.size, 8, none⟩ (.slice (some ⟨w4.heap.size, 0, none⟩) ws.length ws.length)).alloc (.cells (madeCells #[.bool false] ws.length) 4)) := (Below.refl _ _).alloc (by rw [hss]; exact Nat.le_refl _) _
  have HB5 := Lib.hid ((HB4.out.setCell (p := ⟨w.heap.size, 8, none⟩) (Nat.le_refl _) (.slice (some ⟨w4.heap.size, 0, none⟩) ws.length ws.length)).trans (hba.mono (by omega)))
  have hst8 := Turned.set w4 w.heap.size 8 (.slice (some ⟨w4.heap.size, 0, none⟩) ws.length ws.length)
  have HO5 := Lib.hid ((HO4.out.turned hst8 (hnew.imp id (fun g e => by omega))).below hba (hlt2.imp id (fun g => by have := HZ3.out; have := HZ4.out; omega)))
  have HG5 := Lib.hid ((HG4.out.turned hst8 (.inr (fun e => by omega))).below hba (.inr (by have := HZ4.out; omega)))
  have hm5 := own_bools (w4.setCell ⟨w.heap.size, 8, none⟩ (.slice (some ⟨w4.heap.size, 0, none⟩) ws.length ws.length)) ws.length
  rw [hss] at hm5
  have HM5 := Lib.hid hm5
  clear hm5 hss
  generalize ((w4.setCell ⟨w.heap.size, 8, none⟩ (.slice (some ⟨w4.heap.size, 0, none⟩) ws.length ws.length)).alloc (.cells (madeCells #[.bool false] ws.length) 4)) = w5 at *
  clear c2 e8 f8 hmk HN4a hba HB4 HO4 HG4 HN4 hst8
  obtain ⟨pb2, q1, q2, q3, q4, q5⟩ : ∃ pb2, (ws.length = 0 ∨ pa' = some ⟨pb2, 0, none⟩) ∧ OwR w5 pb2 3 ws.length (fun i => .int .i64 (zs.getD i 0)) ∧ w.heap.size < pb2 ∧ pb2 ≠ w3.heap.size ∧ pb2 ≠ w4.heap.size := by
    have k3 := HZ3.out
    have k4 := HZ4.out
    by_cases e : ws.length = 0
    · exact ⟨w4.heap.size + 1, .inl e, ⟨.inl e⟩, by omega, by omega, by omega⟩
    · have g1 := hnew.resolve_left e
      have g2 := hlt2.resolve_left e
      exact ⟨pb', .inr (hpa2.resolve_left e), HO5.out, by omega, by omega, by omega⟩
  have HC5 : Hid (PsC { v with pa := pa', pc := pc', pb := pb2, gb := w3.heap.size, vb := w4.heap.size } n₀ w.heap.size w.heap.size ws F (fun i => zs.getD i 0) (fun _ => false) (fun _ => 0) b0 b1 0 0 w5) := Lib.hid ⟨HN5.out, (show BgR ({ v with pa := pa', pc := pc', pb := pb2, gb := w3.heap.size, vb := w4.heap.size } : PsV) n₀ w.heap.size ws F w from HBg.out.mono hup rfl rfl rfl rfl).below HB5.out, q1, q2, HG5.out, HM5.out, ⟨Nat.le_refl _, Nat.le_of_lt q3, Nat.le_of_lt hw3, Nat.le_of_lt hw4⟩, by show w.heap.size ≠ pb2; omega, by show w.heap.size ≠ w3.heap.size; omega, by show w.heap.size ≠ w4.heap.size; omega, q4, q5, by show w3.heap.size ≠ w4.heap.size; have := HZ4.out; omega⟩
  have HSam := Lib.hid (show SamV v ({ v with pa := pa', pc := pc', pb := pb2, gb := w3.heap.size, vb := w4.heap.size } : PsV) from ⟨rfl, rfl, rfl, rfl⟩)
  generalize ({ v with pa := pa', pc := pc', pb := pb2, gb := w3.heap.size, vb := w4.heap.size } : PsV) = v' at *
  clear HN5 HO5 HG5 HM5 HZ3 HZ4 hw3 hw4 hz1 hz2 hnew hpa2 hlt2 q1 q2 q3 q4 q5 HBg
  have hm2 : ∀ i, i < ws.length → (fun i => zs.getD i 0) i = 0 ∨ (fun i => zs.getD i 0) i = 1 := h2
  clear h2
  obtain ⟨m, hme⟩ : ∃ m : Nat → Int, (fun i => zs.getD i 0) = m := ⟨_, rfl⟩
  rw [hme] at HC5 hm2
  have HMe := Lib.hid hme
  clear hme
  have HM2 := Lib.hid hm2
  clear hm2
  have HTb := Lib.hid ht
  have HWs := Lib.hid hw
  have HKb := Lib.hid (fun t k (hk : k ≤ ws.length) => hvK_bd hw m t k hk)
  clear ht hw
  have c0 := heap_cell HC5.out.box (i := 0) rfl
  simp only [List.getElem_toArray, List.getElem_cons_zero, List.getElem_cons_succ] at c0
  go_wp2
  clear c0
  go_loopw [22] (fun i wr => ∃ k : Nat, i = .int .i64 k ∧ k ≤ ws.length ∧ Hid (PsC v' n₀ w.heap.size w.heap.size ws F m (fun _ => false) (fun c => if c < k then tG ws.length F m c else 0) b0 b1 (hvK (wsF ws) m 0 k) (hvK (wsF ws) m 1 k) wr) ∧ Hid (Below w.heap.size w wr)) (fun i _ => ws.length - (intOf i).toNat)
  case atStart => exact ⟨0, rfl, Nat.zero_le _, Lib.hid (by simpa [hvK, sumTo] using HC5.out), HB5⟩
  case round =>
    clear HC5 HB5
    obtain ⟨k, rfl, hk, HC, HB⟩ := hrel
    by_cases hlt : k < ws.length
    · have hkn : (k : Int) < (ws.length : Int) := by omega
      have hwa := HC.out.bg.wa.resolve_left (by omega)
      have hpa := HC.out.pa.resolve_left (by omega)
      have p3 := HC.out.bg.wts.cell hlt
      have p1 := HC.out.part.cell hlt
      have c2 := heap_cell HC.out.box (i := 2) rfl
      have c5 := heap_cell HC.out.box (i := 5) rfl
      have c6 := heap_cell HC.out.box (i := 6) rfl
      have f5 := heap_frozen HC.out.box 5
      have f6 := heap_frozen HC.out.box 6
      simp only [List.getElem_toArray, List.getElem_cons_zero, List.getElem_cons_succ] at c2 c5 c6
      rw [hpa] at c2
      have hb0 := HKb.out 0 k hk
      have hb1 := HKb.out 1 k hk
      have hx : 1 ≤ wsF ws k ∧ wsF ws k ≤ 1099511627776 := by
        have := HWs.out _ (List.getElem_mem hlt)
        unfold wsF
        rw [List.getD_eq_getElem?_getD, List.getElem?_eq_getElem hlt]
        exact this
      have HE0 := Lib.hid (show hvK (wsF ws) m 0 (k + 1) = hvK (wsF ws) m 0 k + (if m k = 0 then wsF ws k else 0) from rfl)
      have HE1 := Lib.hid (show hvK (wsF ws) m 1 (k + 1) = hvK (wsF ws) m 1 k + (if m k = 1 then wsF ws k else 0) from rfl)
      have hmk := HM2.out k hlt
      have HFn := Lib.hid (show upd (fun c => if c < k then tG ws.length F m c else 0) k (tG ws.length F m k) = (fun c => if c < k + 1 then tG ws.length F m c else 0) from by
        funext c
        unfold upd
        by_cases e : c = k
        · subst e; simp
        · by_cases e2 : c < k
          · simp [e, e2, show c < k + 1 by omega]
          · simp [e, e2, show ¬ c < k + 1 by omega])
      generalize hq0 : hvK (wsF ws) m 0 k = q0 at *
      generalize hq1 : hvK (wsF ws) m 1 k = q1 at *
      generalize hr0 : hvK (wsF ws) m 0 (k + 1) = r0 at *
      generalize hr1 : hvK (wsF ws) m 1 (k + 1) = r1 at *
      have HR0 := Lib.hid hr0
      have HR1 := Lib.hid hr1
      clear hr0 hr1
      generalize wsF ws k = x at *
      generalize hmm : m k = mk at *
      clear hq0 hq1 hmm
      obtain ⟨w7, HW7⟩ : ∃ w7, Hid (w7 = (if mk = 0 then wr.setCell ⟨w.heap.size, 5, none⟩ (.int .i64 (q0 + x)) else wr.setCell ⟨w.heap.size, 6, none⟩ (.int .i64 (q1 + x)))) := ⟨_, Lib.hid rfl⟩
      have HC7 : Hid (PsC v' n₀ w.heap.size w.heap.size ws F m (fun _ => false) (fun c => if c < k then tG ws.length F m c else 0) b0 b1 r0 r1 w7) := Lib.hid (by
        rw [HW7.out, HE0.out, HE1.out]
        rcases hmk with rfl | rfl
        · simpa using HC.out.setH0 (q0 + x)
        · simpa using HC.out.setH1 (q1 + x))
      have HB7 : Hid (Below w.heap.size w w7) := Lib.hid (by
        rw [HW7.out]
        split
        · exact HB.out.setCell (p := ⟨w.heap.size, 5, none⟩) (Nat.le_refl _) _
        · exact HB.out.setCell (p := ⟨w.heap.size, 6, none⟩) (Nat.le_refl _) _)
      have HAk := Lib.hid (fun W (hW : Below w7.heap.size w7 W) => asked_any ((HC7.out.onB hW).ask HTb.out hs) hlt)
      rw [hwa] at *
      rcases hmk with rfl | rfl
      all_goals
        simp only [if_true, show ¬ ((1 : Int) = 0) by decide, if_false] at HW7
        have hww0 : IntKind.i64.wrap (q0 + x) = q0 + x := IntWalk.i64_in _ (by omega)
        have hww1 : IntKind.i64.wrap (q1 + x) = q1 + x := IntWalk.i64_in _ (by omega)
        clear hb0 hb1 HE0 HE1 HC HB
        go_upto_region 8 with fail
        rw [← HW7.out]
        clear HW7 p3 p1 c2 c5 c6 f5 f6
        have hX7 : ∀ W, Turned (fun c => c = v'.gb) w7 W → W.cell? ⟨w.heap.size, 7, none⟩ = some (.slice (some ⟨v'.gb, 0, none⟩) ws.length ws.length) := fun W hW => heap_cell (hW.old HC7.out.box (fun e => HC7.out.dis.2.1 e)) rfl
        have hugb := HC7.out.ups.2.2.1
        go_region_held3 (fun W => Turned (fun c => c = v'.gb) w7 W) (first | assumption | exact Turned.refl' _ _ | exact (Turned.refl' _ _).drewT | exact Turned.drewT (by assumption) | exact (show Turned (fun c => c = v'.gb) w7 _ by assumption).setT rfl _ _) (first
          | (go_at_call 83; refine (HAk.out _ (by first | exact Below.refl _ _ | exact (Below.refl _ _).drew)).mono ?_; rintro e w8 ⟨rfl, hb⟩; have hbb : Below w7.heap.size w7 w8 := (by first | exact hb | exact ((Below.refl w7.heap.size w7).drew).trans hb); have hS8 : Turned (fun c => c = v'.gb) w7 w8 := ⟨hbb.os, hbb.tape, hbb.output, hbb.size, fun c hc _ => hbb.block c hc⟩; have HC8 := Lib.hid (HC7.out.onB hbb); have HB8 := Lib.hid (HB7.out.trans (hbb.mono HB7.out.size)); have g1 := HC8.out.gain.cell hlt; have g2 := HC8.out.gain.frozen (by omega) k; clear hb hbb))
        all_goals
          have HC9 := Lib.hid (HC8.out.setGain hlt (tG ws.length F m k))
          rw [HFn.out] at HC9
          have HB9 := Lib.hid (HB8.out.setCell (p := ⟨v'.gb, k, none⟩) hugb (.int .i64 (tG ws.length F m k)))
          go_wp2
          go_roundw
          case rel => exact ⟨k + 1, by go_num, by omega, Lib.hid (by rw [HR0.out, HR1.out]; exact HC9.out), HB9⟩
          case measure => simp [intOf]; omega
    · obtain rfl : k = ws.length := by omega
      go_wp2
      go_ret
      have hme := HMe.out
      subst hme
      exact ⟨v', w.heap.size, rfl, ⟨HC.out.box, HC.out.bg, HC.out.pa, HC.out.part, HC.out.gain.congr (fun i hi => by simp [hi]), HC.out.moved, HC.out.ups, HC.out.dis⟩, HB.out, HSam.out⟩
/-- What is known of the numbers at first. -/
theorem PsN.start {ws : List Int} {F : Nat → Nat → Int} {m : Nat → Int} (ht : Tab ws.length F) (hs : ws.length ≤ 4096) (hw : ∀ x ∈ ws, 1 ≤ x ∧ x ≤ 1099511627776) (h2 : twoM ws.length m) :
    PsN ws F m (fun _ => false) (fun i => tG ws.length F m i) (fun t => hvM ws.length (wsF ws) m t) :=
  ⟨ht, hs, hw, h2, fun _ _ => rfl, fun a _ => ⟨0, by omega, fun _ => rfl, by decide, by decide⟩⟩
/-- A pass from its beginning on. -/
theorem again_ps {v : PsV} {n₀ up : Nat} {ws : List Int} {F : Nat → Nat → Int} {w : World} {zs : List Int} (hbg : BgR v n₀ up ws F w) (hup : up ≤ w.heap.size) (hp : IntsAt .i64 w.heap.size w v.pa v.pb 0 ws.length zs) (hpn : v.pa = none → ws.length = 0 ∧ v.pc = 0)
    (h2 : ∀ i, i < ws.length → zs.getD i 0 = 0 ∨ zs.getD i 0 = 1) (ht : Tab ws.length F) (hs : ws.length ≤ 4096) (hw : ∀ x ∈ ws, 1 ≤ x ∧ x ≤ 1099511627776) (b : Int → Int) :
    Calls Try.prog 74 #[.agg #[.slice v.wa ws.length v.wc, .slice v.na ws.length v.nc, .slice v.pa ws.length v.pc, .int .i64 (b 0), .int .i64 (b 1), .int .i64 0, .int .i64 0, .slice none 0 0, .slice none 0 0]] w fun e w' =>
      ∃ v' o, e = .returned (.pointer (some ⟨o, 0, none⟩)) ∧ PsR v' n₀ w.heap.size o ws F (fun i => zs.getD i 0) (fun _ => false) (fun i => tG ws.length F (fun i => zs.getD i 0) i) b (fun t => hvM ws.length (wsF ws) (fun i => zs.getD i 0) t) w' ∧ Below w.heap.size w w' ∧ SamV v v' :=
  (again_any hbg hup hp hpn h2 ht hs hw (b 0) (b 1)).mono fun e w' ⟨v', o, he, hc, hb⟩ => ⟨v', o, he, ⟨hc.box, hc.bg, hc.pa, hc.part, hc.gain, hc.moved, hc.ups, hc.dis, PsN.start ht hs hw h2⟩, hb⟩
end Go.Proofs.Ytjpgkocffceeoaa

namespace Go.Proofs.Ytjpgkocffceeoaa
open Go.RowKit Go.Shelf Rk

attribute [local go_sem] Oper.semAt_some

/-- An iterator's boxes are numbers' and nodes'. -/
theorem IsSeq.grow {W W' : World} {u : Value} {n₀ : Nat} {D : List (Int × Int)} {row : Option Nat} (h : IsSeq W u n₀ D) (hg : W.grownBy W' row)
    (hr : ∀ r, row = some r → n₀ ≤ r ∧ ∀ cur t fr, W.heap[r]? = some (.cells cur t fr) → t ≠ 98 ∧ t ≠ 3) : IsSeq W' u n₀ D := by
  obtain ⟨B1, B2, p, t, s, h1, h2, h3, h4, h5, h6, h7, h8⟩ := h
  have hb : Below n₀ W W' := (Below.refl n₀ W).grown hg h8 (fun r e => (hr r e).1)
  exact ⟨B1, B2, p, t, s, h1, heap_kept h2 hg (fun e => ((hr _ e.symm).2 _ _ _ h2).1 rfl), heap_kept h3 hg (fun e => ((hr _ e.symm).2 _ _ _ h3).2 rfl), h4.low hb, h5, h6, h7, Nat.le_trans h8 hg.size⟩
theorem IsSeq.mid {A B : World} {u : Value} {n₀ lo up : Nat} {D : List (Int × Int)} (h : SeqU A u n₀ up D) (hn : NewSeq lo u) (hb : Below n₀ A B) (hm : Mid lo up A B) : SeqU B u n₀ up D := by
  obtain ⟨⟨B1, B2, p, t, s, h1, h2, h3, h4, h5, h6, h7, h8⟩, h9, hu⟩ := h
  obtain ⟨g, C1, C2, e, l1, l2⟩ := hn
  rw [h1] at e
  cases e
  obtain ⟨u1, u2⟩ := hu _ _ _ h1
  exact ⟨⟨B1, B2, p, t, s, h1, (hm.block _ l1 u1).trans h2, (hm.block _ l2 u2).trans h3, h4.low hb, h5, h6, h7, Nat.le_trans h8 hb.size⟩, h9, hu⟩
theorem OwR.mid {A B : World} {b : Nat} {t : TypeId} {n : Nat} {f : Nat → Value} {lo up : Nat} (h : OwR A b t n f) (hm : Mid lo up A B) (h1 : n = 0 ∨ lo ≤ b) (h2 : n = 0 ∨ b < up) : OwR B b t n f := by
  rcases h.row with e | ⟨cs, k1, k2⟩
  · exact ⟨.inl e⟩
  · by_cases e : n = 0
    · exact ⟨.inl e⟩
    · exact ⟨.inr ⟨cs, (hm.block _ (h1.resolve_left e) (h2.resolve_left e)).trans k1, k2⟩⟩
/-- What a pass begins with lies between two bounds. -/
structure BgL (v : PsV) (n₀ lo up : Nat) (ws : List Int) (F : Nat → Nat → Int) (W : World) : Prop where
  bg : BgR v n₀ up ws F W
  wlo : ws.length = 0 ∨ lo ≤ v.wb
  nlo : ws.length = 0 ∨ lo ≤ v.nb
  slo : ∀ a, a < ws.length → ∃ u, W.cell? ⟨v.nb, a, none⟩ = some u ∧ NewSeq lo u
theorem BgL.same {v v' : PsV} {n₀ lo up : Nat} {ws : List Int} {F : Nat → Nat → Int} {W : World} (h : BgL v n₀ lo up ws F W) (hs : SamV v v') : BgL v' n₀ lo up ws F W := by
  obtain ⟨e1, e2, e3, e4⟩ := hs
  exact ⟨h.bg.mono (Nat.le_refl _) e1 e2 e3 e4, by rw [e2]; exact h.wlo, by rw [e4]; exact h.nlo, by rw [e4]; exact h.slo⟩
theorem BgL.mid {v : PsV} {n₀ lo up : Nat} {ws : List Int} {F : Nat → Nat → Int} {A B : World} (h : BgL v n₀ lo up ws F A) (hb : Below n₀ A B) (hm : Mid lo up A B) : BgL v n₀ lo up ws F B := by
  obtain ⟨ne, h1, h2⟩ := h.bg.near
  have hsl : ∀ a, a < ws.length → NewSeq lo (ne a) := fun a ha => by
    obtain ⟨u, k1, k2⟩ := h.slo a ha
    rw [h1.cell ha] at k1
    cases k1
    exact k2
  have h3 := h1.mid hm h.nlo h.bg.nlt
  exact ⟨⟨h.bg.wa, h.bg.wts.mid hm h.wlo h.bg.wlt, h.bg.wlt, h.bg.na, h.bg.nlt, ne, h3, fun a ha => IsSeq.mid (h2 a ha) (hsl a ha) hb hm⟩, h.wlo, h.nlo, fun a ha => ⟨_, h3.cell ha, hsl a ha⟩⟩
theorem BgL.below {v : PsV} {n₀ lo up : Nat} {ws : List Int} {F : Nat → Nat → Int} {A B : World} (h : BgL v n₀ lo up ws F A) (hn : n₀ ≤ up) (hb : Below up A B) : BgL v n₀ lo up ws F B :=
  h.mid (hb.mono hn) (Mid.of_below hb (Nat.le_refl _))
/-- A pass stays where what it begins with stays and its own blocks do. -/
theorem PsR.mid {v : PsV} {n₀ up o : Nat} {ws : List Int} {F : Nat → Nat → Int} {m : Nat → Int} {mv : Nat → Bool} {G : Nat → Int} {b H : Int → Int} {A B : World} {hi : Nat} (h : PsR v n₀ up o ws F m mv G b H A) (hbg : BgR v n₀ up ws F B) (hm : Mid up hi A B)
    (ho : o < hi) (hp : ws.length = 0 ∨ v.pb < hi) (hg : ws.length = 0 ∨ v.gb < hi) (hv : ws.length = 0 ∨ v.vb < hi) : PsR v n₀ up o ws F m mv G b H B :=
  ⟨(hm.block _ h.ups.1 ho).trans h.box, hbg, h.pa, h.part.mid hm (.inr h.ups.2.1) hp, h.gain.mid hm (.inr h.ups.2.2.1) hg, h.moved.mid hm (.inr h.ups.2.2.2) hv, h.ups, h.dis, h.num⟩
def nvals (ne : Nat → Value) (k : Nat) : List Value := (List.range k).map ne
theorem nvals_succ (ne : Nat → Value) (k : Nat) (u : Value) : nvals (fun a => if a = k then u else ne a) (k + 1) = nvals ne k ++ [u] := by
  unfold nvals
  rw [List.range_succ, List.map_append]
  congr 1
  · exact List.map_congr_left fun a ha => by rw [if_neg (by have := List.mem_range.1 ha; omega)]
  · simp
/-- While weights and iterators are gathered: kw, kn of them. -/
structure BeR (w : World) (n₀ : Nat) (ws : List Int) (F : Nat → Nat → Int) (Bp kw kn : Nat) (wv nv : Value) (ne : Nat → Value) (pa : Option Addr) (pb pc : Nat) (zs : List Int) (b0 b1 : Int) (W : World) : Prop where
  box : W.heap[Bp]? = some (.cells #[wv, nv, .slice pa ws.length pc, .int .i64 b0, .int .i64 b1, .int .i64 0, .int .i64 0, .slice none 0 0, .slice none 0 0] 116 (0, 0))
  res : ∃ cs, W.heap[w.heap.size + 1]? = some (.cells cs 116 (0, 0)) ∧ cs.size = 9
  wown : W.ownsRow w.heap.size 2 1 wv kw (ivals .i64 (ws.take kw))
  nown : W.ownsRow w.heap.size 86 1 nv kn (nvals ne kn)
  seq : ∀ a, a < kn → IsSeq W (ne a) n₀ (rowOf ws.length (F a)) ∧ NewSeq w.heap.size (ne a)
  part : OwR W pb 3 ws.length (fun i => .int .i64 (zs.getD i 0))
  pad : ws.length = 0 ∨ pa = some ⟨pb, 0, none⟩
  plo : ws.length = 0 ∨ w.heap.size ≤ pb
  blo : w.heap.size + 2 ≤ Bp
  n0 : n₀ ≤ w.heap.size
  below : Below w.heap.size w W
section
variable {w W W' : World} {n₀ : Nat} {ws : List Int} {F : Nat → Nat → Int} {Bp kw kn : Nat} {wv nv : Value} {ne : Nat → Value} {pa : Option Addr} {pb pc : Nat} {zs : List Int} {b0 b1 : Int}
theorem BeR.on (h : BeR w n₀ ws F Bp kw kn wv nv ne pa pb pc zs b0 b1 W) (hb : Below W.heap.size W W') : BeR w n₀ ws F Bp kw kn wv nv ne pa pb pc zs b0 b1 W' :=
  ⟨heap_below h.box hb (heap_lt h.box), (by obtain ⟨cs, hr, hz⟩ := h.res; exact ⟨cs, heap_below hr hb (heap_lt hr), hz⟩), xown_kept h.wown (grown_below hb none) (fun r e => by cases e), xown_kept h.nown (grown_below hb none) (fun r e => by cases e),
    fun a ha => ⟨(h.seq a ha).1.below hb, (h.seq a ha).2⟩, h.part.below hb (by
      by_cases e : ws.length = 0
      · exact .inl e
      · exact .inr (h.part.lt (by omega))), h.pad, h.plo, h.blo, h.n0, h.below.trans (hb.mono h.below.size)⟩
/-- Memory grown but for a row of its own, of numbers of 64 bits or of iterators. -/
theorem BeR.grown {row : Option Nat} (h : BeR w n₀ ws F Bp kw kn wv nv ne pa pb pc zs b0 b1 W) (hg : W.grownBy W' row) (hr : ∀ r, row = some r → w.heap.size ≤ r ∧ ∃ cur t, W.heap[r]? = some (.cells cur t (0, 0)) ∧ (t = 2 ∨ t = 86)) :
    W'.heap[Bp]? = some (.cells #[wv, nv, .slice pa ws.length pc, .int .i64 b0, .int .i64 b1, .int .i64 0, .int .i64 0, .slice none 0 0, .slice none 0 0] 116 (0, 0)) ∧ (∃ cs, W'.heap[w.heap.size + 1]? = some (.cells cs 116 (0, 0)) ∧ cs.size = 9) ∧
    (∀ a, a < kn → IsSeq W' (ne a) n₀ (rowOf ws.length (F a)) ∧ NewSeq w.heap.size (ne a)) ∧ OwR W' pb 3 ws.length (fun i => .int .i64 (zs.getD i 0)) ∧ Below w.heap.size w W' := by
  have ty : ∀ r, row = some r → ∀ cs t fr, W.heap[r]? = some (.cells cs t fr) → t = 2 ∨ t = 86 := fun r e cs t fr hc => by
    obtain ⟨_, cur, t', hc', ht⟩ := hr r e
    rw [hc] at hc'; cases hc'; exact ht
  refine ⟨heap_kept h.box hg (fun e => by rcases ty _ e.symm _ _ _ h.box with e2 | e2 <;> exact absurd e2 (by decide)), ?_, fun a ha => ⟨(h.seq a ha).1.grow hg (fun r e => ⟨Nat.le_trans h.n0 (hr r e).1, fun cur t fr hc => ?_⟩), (h.seq a ha).2⟩, ?_, h.below.grown hg h.below.size (fun r e => (hr r e).1)⟩
  · obtain ⟨cs, hc, hz⟩ := h.res
    exact ⟨cs, heap_kept hc hg (fun e => by rcases ty _ e.symm _ _ _ hc with e2 | e2 <;> exact absurd e2 (by decide)), hz⟩
  · rcases ty r e _ _ _ hc with rfl | rfl <;> exact ⟨by decide, by decide⟩
  · rcases h.part.row with e | ⟨cs, k1, k2⟩
    · exact ⟨.inl e⟩
    · exact ⟨.inr ⟨cs, heap_kept k1 hg (fun e => by rcases ty _ e.symm _ _ _ k1 with e2 | e2 <;> exact absurd e2 (by decide)), k2⟩⟩
theorem pass_ne {W : World} {B : Nat} {cs : Array Value} (h : W.heap[B]? = some (.cells cs 116 (0, 0))) (t : TypeId) (ht : t ≠ 116) : ∀ r, some B = some r → ∀ cur, W.heap[r]? ≠ some (.cells cur t (0, 0)) := fun r e cur hc => by
  cases e
  rw [h] at hc
  injection hc with hc
  injection hc with _ h2
  exact ht h2.symm
/-- The box takes the weights' row. -/
theorem BeR.weights (h : BeR w n₀ ws F Bp kw kn wv nv ne pa pb pc zs b0 b1 W) {x : Int} (hx : ws.take (kw + 1) = ws.take kw ++ [x]) {g cap : Nat} (hown : W'.ownsRow w.heap.size 2 1 (.slice (some ⟨g, 0, none⟩) (kw + 1) cap) (kw + 1) (ivals .i64 (ws.take kw) ++ [.int .i64 x])) (hg : W.grownBy W' wv.ownBlock) :
    BeR w n₀ ws F Bp (kw + 1) kn (.slice (some ⟨g, 0, none⟩) (kw + 1) cap) nv ne pa pb pc zs b0 b1 (W'.setCell ⟨Bp, 0, none⟩ (.slice (some ⟨g, 0, none⟩) (kw + 1) cap)) := by
  obtain ⟨k1, ⟨cs, k2, k2z⟩, k3, k4, k5⟩ := h.grown hg (fun r e => ⟨(xown_block h.wown e).1, by obtain ⟨_, cur, hc⟩ := xown_block h.wown e; exact ⟨cur, _, hc, .inl rfl⟩⟩)
  have hset := grown_set W' Bp 0 (.slice (some ⟨g, 0, none⟩) (kw + 1) cap)
  have no5 : W'.ownsRow w.heap.size 86 1 nv kn (nvals ne kn) := xown_kept h.nown hg (fun r e cur hc => by
    obtain ⟨_, cur', hc'⟩ := xown_block h.wown e
    rw [hc] at hc'; injection hc' with hc'; injection hc' with _ ht; exact absurd ht (by decide))
  have hbl := h.blo
  refine ⟨by simpa using heap_set k1 0 (.slice (some ⟨g, 0, none⟩) (kw + 1) cap), ⟨cs, heap_other k2 (by omega) _ _, k2z⟩, ?_, xown_kept no5 hset (pass_ne k1 _ (by decide)), fun a ha => ⟨(k3 a ha).1.grow hset (fun r e => ⟨by cases e; have := h.n0; omega, fun cur t fr hc => by cases e; rw [k1] at hc; cases hc; exact ⟨by decide, by decide⟩⟩), (k3 a ha).2⟩, ?_, h.pad, h.plo, h.blo, h.n0, k5.setCell (p := ⟨Bp, 0, none⟩) (by show w.heap.size ≤ Bp; omega) _⟩
  · rw [hx, ivals_snoc]
    exact xown_kept hown hset (pass_ne k1 _ (by decide))
  · rcases k4.row with e | ⟨cs, q1, q2⟩
    · exact ⟨.inl e⟩
    · exact ⟨.inr ⟨cs, heap_kept q1 hset (fun e => pass_ne k1 3 (by decide) _ e.symm _ q1), q2⟩⟩
/-- The box takes the iterators' row. -/
theorem BeR.nears (h : BeR w n₀ ws F Bp kw kn wv nv ne pa pb pc zs b0 b1 W) {u : Value} (hu : IsSeq W u n₀ (rowOf ws.length (F kn)) ∧ NewSeq w.heap.size u) {g cap : Nat} (hown : W'.ownsRow w.heap.size 86 1 (.slice (some ⟨g, 0, none⟩) (kn + 1) cap) (kn + 1) (nvals ne kn ++ [u])) (hg : W.grownBy W' nv.ownBlock) :
    BeR w n₀ ws F Bp kw (kn + 1) wv (.slice (some ⟨g, 0, none⟩) (kn + 1) cap) (fun a => if a = kn then u else ne a) pa pb pc zs b0 b1 (W'.setCell ⟨Bp, 1, none⟩ (.slice (some ⟨g, 0, none⟩) (kn + 1) cap)) := by
  have hrow : ∀ r, nv.ownBlock = some r → w.heap.size ≤ r ∧ ∃ cur t, W.heap[r]? = some (.cells cur t (0, 0)) ∧ (t = 2 ∨ t = 86) := fun r e => ⟨(xown_block h.nown e).1, by obtain ⟨_, cur, hc⟩ := xown_block h.nown e; exact ⟨cur, _, hc, .inr rfl⟩⟩
  obtain ⟨k1, ⟨cs, k2, k2z⟩, k3, k4, k5⟩ := h.grown hg hrow
  have hset := grown_set W' Bp 1 (.slice (some ⟨g, 0, none⟩) (kn + 1) cap)
  have wo5 : W'.ownsRow w.heap.size 2 1 wv kw (ivals .i64 (ws.take kw)) := xown_kept h.wown hg (fun r e cur hc => by
    obtain ⟨_, cur', hc'⟩ := xown_block h.nown e
    rw [hc] at hc'; injection hc' with hc'; injection hc' with _ ht; exact absurd ht (by decide))
  have hbl := h.blo
  have hu5 : IsSeq W' u n₀ (rowOf ws.length (F kn)) := hu.1.grow hg (fun r e => ⟨Nat.le_trans h.n0 (hrow r e).1, fun cur t fr hc => by
    obtain ⟨_, cur', t', hc', ht⟩ := hrow r e
    rw [hc] at hc'; cases hc'
    rcases ht with rfl | rfl <;> exact ⟨by decide, by decide⟩⟩)
  have hsq : ∀ v' : Value, ∀ D, IsSeq W' v' n₀ D → IsSeq (W'.setCell ⟨Bp, 1, none⟩ (.slice (some ⟨g, 0, none⟩) (kn + 1) cap)) v' n₀ D := fun v' D hs => hs.grow hset (fun r e => ⟨by cases e; have := h.n0; omega, fun cur t fr hc => by cases e; rw [k1] at hc; cases hc; exact ⟨by decide, by decide⟩⟩)
  refine ⟨by simpa using heap_set k1 1 (.slice (some ⟨g, 0, none⟩) (kn + 1) cap), ⟨cs, heap_other k2 (by omega) _ _, k2z⟩, xown_kept wo5 hset (pass_ne k1 _ (by decide)), ?_, fun a ha => ?_, ?_, h.pad, h.plo, h.blo, h.n0, k5.setCell (p := ⟨Bp, 1, none⟩) (by show w.heap.size ≤ Bp; omega) _⟩
  · rw [nvals_succ]
    exact xown_kept hown hset (pass_ne k1 _ (by decide))
  · by_cases e : a = kn
    · subst e
      simp only [if_pos]
      exact ⟨hsq _ _ hu5, hu.2⟩
    · simp only [if_neg e]
      exact ⟨hsq _ _ (k3 a (by omega)).1, (k3 a (by omega)).2⟩
  · rcases k4.row with e | ⟨cs, q1, q2⟩
    · exact ⟨.inl e⟩
    · exact ⟨.inr ⟨cs, heap_kept q1 hset (fun e => pass_ne k1 3 (by decide) _ e.symm _ q1), q2⟩⟩
/-- The answer's own cells are turned. -/
theorem BeR.ret (h : BeR w n₀ ws F Bp kw kn wv nv ne pa pb pc zs b0 b1 W) (hg : W.grownBy W' (some (w.heap.size + 1))) (hr : ∃ cs, W'.heap[w.heap.size + 1]? = some (.cells cs 116 (0, 0)) ∧ cs.size = 9) : BeR w n₀ ws F Bp kw kn wv nv ne pa pb pc zs b0 b1 W' := by
  obtain ⟨cs, hc, hz⟩ := h.res
  have hbl := h.blo
  refine ⟨heap_kept h.box hg (fun e => by cases e; omega), hr, xown_kept h.wown hg (pass_ne hc _ (by decide)), xown_kept h.nown hg (pass_ne hc _ (by decide)), fun a ha => ⟨(h.seq a ha).1.grow hg (fun r e => ⟨by cases e; have := h.n0; omega, fun cur t fr hc2 => by cases e; rw [hc] at hc2; cases hc2; exact ⟨by decide, by decide⟩⟩), (h.seq a ha).2⟩, ?_, h.pad, h.plo, h.blo, h.n0, h.below.grown hg h.below.size (fun r e => by cases e; omega)⟩
  rcases h.part.row with e | ⟨cs', q1, q2⟩
  · exact ⟨.inl e⟩
  · exact ⟨.inr ⟨cs', heap_kept q1 hg (fun e => pass_ne hc 3 (by decide) _ e.symm _ q1), q2⟩⟩
/-- What is gathered is what a pass begins with. -/
theorem BeR.done {wa na : Option Addr} {wc nc : Nat} (h : BeR w n₀ ws F Bp ws.length ws.length (.slice wa ws.length wc) (.slice na ws.length nc) ne pa pb pc zs b0 b1 W) :
    ∃ v : PsV, v.wa = wa ∧ v.wc = wc ∧ v.na = na ∧ v.nc = nc ∧ v.pa = pa ∧ v.pb = pb ∧ v.pc = pc ∧ BgL v n₀ w.heap.size W.heap.size ws F W := by
  have htk : ws.take ws.length = ws := List.take_of_length_le (Nat.le_refl _)
  obtain ⟨wb, w1, w2, w3⟩ : ∃ wb, (ws.length = 0 ∨ wa = some ⟨wb, 0, none⟩) ∧ (ws.length = 0 ∨ (w.heap.size ≤ wb ∧ wb < W.heap.size)) ∧ OwR W wb 2 ws.length (fun i => .int .i64 (wsF ws i)) := by
    rcases h.wown.2 with ⟨_, h0⟩ | ⟨g, cap, cur, e, hb, hg, hnc, _, _, htake⟩
    · exact ⟨0, .inl h0, .inl h0, ⟨.inl h0⟩⟩
    · cases e
      refine ⟨g, .inr rfl, .inr ⟨hb, heap_lt hg⟩, ⟨.inr ⟨cur, hg, fun i hi => ?_⟩⟩⟩
      have e1 : (cur.toList.take (ws.length * 1))[i]? = (ivals .i64 (ws.take ws.length))[i]? := by rw [htake]
      rw [List.getElem?_take_of_lt (by omega), htk] at e1
      rw [← Array.getElem?_toList, e1]
      simp [ivals, wsF, List.getD_eq_getElem?_getD, List.getElem?_eq_getElem hi]
  obtain ⟨nb, n1, n2, n3⟩ : ∃ nb, (ws.length = 0 ∨ na = some ⟨nb, 0, none⟩) ∧ (ws.length = 0 ∨ (w.heap.size ≤ nb ∧ nb < W.heap.size)) ∧ OwR W nb 86 ws.length ne := by
    rcases h.nown.2 with ⟨_, h0⟩ | ⟨g, cap, cur, e, hb, hg, hnc, _, _, htake⟩
    · exact ⟨0, .inl h0, .inl h0, ⟨.inl h0⟩⟩
    · cases e
      refine ⟨g, .inr rfl, .inr ⟨hb, heap_lt hg⟩, ⟨.inr ⟨cur, hg, fun i hi => ?_⟩⟩⟩
      have e1 : (cur.toList.take (ws.length * 1))[i]? = (nvals ne ws.length)[i]? := by rw [htake]
      rw [List.getElem?_take_of_lt (by omega)] at e1
      rw [← Array.getElem?_toList, e1]
      simp [nvals, hi]
  refine ⟨⟨wa, wc, wb, na, nc, nb, pa, pc, pb, 0, 0⟩, rfl, rfl, rfl, rfl, rfl, rfl, rfl, ⟨⟨w1, w3, w2.imp id (·.2), n1, n2.imp id (·.2), ne, n3, fun a ha => (h.seq a ha).1.up (Nat.le_refl _)⟩, w2.imp id (·.1), n2.imp id (·.1), fun a ha => ⟨_, n3.cell ha, (h.seq a ha).2⟩⟩⟩
end
end Go.Proofs.Ytjpgkocffceeoaa

namespace Go.Proofs.Ytjpgkocffceeoaa
open Go.RowKit Go.Shelf Rk

attribute [local go_sem] Oper.semAt_some

/-- What is left of the first statements. -/
structure Be0 (w : World) (n : Nat) (Bp : Nat) (pa : Option Addr) (pb pc : Nat) (zs : List Int) (b0 b1 : Int) (W : World) : Prop where
  box : W.heap[Bp]? = some (.cells #[.slice none 0 0, .slice none 0 0, .slice pa n pc, .int .i64 b0, .int .i64 b1, .int .i64 0, .int .i64 0, .slice none 0 0, .slice none 0 0] 116 (0, 0))
  res : ∃ cs, W.heap[w.heap.size + 1]? = some (.cells cs 116 (0, 0)) ∧ cs.size = 9
  part : OwR W pb 3 n (fun i => .int .i64 (zs.getD i 0))
  pad : n = 0 ∨ pa = some ⟨pb, 0, none⟩
  plo : n = 0 ∨ w.heap.size ≤ pb
  pnil : pa = none → n = 0 ∧ pc = 0
  blo : w.heap.size + 2 ≤ Bp
  below : Below w.heap.size w W
theorem nine_thru {W0 W' : World} {cs : Array Value} {t : TypeId} (hb : Below (W0.alloc (.cells cs t)).drew.heap.size (W0.alloc (.cells cs t)).drew W') : W'.heap[W0.heap.size]? = some (.cells cs t (0, 0)) := by
  have h : (W0.alloc (.cells cs t)).drew.heap[W0.heap.size]? = some (.cells cs t (0, 0)) := heap_new (w := W0) _ rfl
  exact heap_below h hb (heap_lt h)
/-- Nine cells are stored over nine. -/
theorem store_nine {W : World} {b : Nat} {old : Array Value} {t : TypeId} (h : W.heap[b]? = some (.cells old t (0, 0))) (ho : old.size = 9) (vs : List Value) (hv : vs.length = 9) (h1 : vs.all (·.oneCell') = true) :
    (storeCells ⟨b, 0, none⟩ vs 0).run Try.prog W = .ok () (W.setRow b vs.toArray) := by
  have := run_storeCells_from (P := Try.prog) b t vs 0 old W h (by omega) (fun v hm => List.all_eq_true.1 h1 v hm)
  simpa using this
/-- A whole row is stored, as a step of a region inside a fence. -/
theorem stepIn_store_row {F : Fence} {fn : Nat} {P : Program} {ops : Array Oper} {o : Oper} {a : Act} {w : World} {K : Act → World → Prop} {Q : Exit → Act → World → Prop} {E : Prop}
    (hgd : o.guard = none) (ty : TypeId) (x y : Operand) (ho : o.op = .store ty x y) (g : Nat) (cells : Array Value) (hx : a.eval x = .pointer (some ⟨g, 0, none⟩)) (hy : a.eval y = .agg cells)
    (t : TypeId) (old : Array Value) (hg : w.heap[g]? = some (.cells old t (0, 0))) (hi : (P.info? ty).map (·.size) = some cells.size) (hold : old.size = cells.size) (h1 : cells.all (·.oneCell') = true)
    (hK : K (a.put o.dst undef) (w.setRow g cells)) : if Region.wanted o (yielded ops a.tmps) = true then Oper.wpIn F fn P o a w K Q else E := by
  have hw : Region.wanted o (yielded ops a.tmps) = true := by simp [Region.wanted, hgd]
  rw [if_pos hw]
  unfold Oper.wpIn
  refine ⟨?_, ?_⟩
  · simp [Oper.about, ho]
  · rw [Oper.semAt_plain F _ _ (by rw [ho]; intro c hc'; cases hc')]
    unfold execOp
    simp only [ho, hx, hy, Instr.storeAt, Instr.sureAddr, Sem.run_bind, Sem.run_pure, Result.andThen_ok, run_storeVar_row w g t ty old cells hg hi hold h1]
    exact hK
theorem grown_setRow (W : World) (b : Nat) (cs : Array Value) : W.grownBy (W.setRow b cs) (some b) := ⟨rfl, rfl, rfl, by simp, fun k hk hne => setRow_other W b k cs (fun e => hne (by rw [e]))⟩
theorem be0_mk {w W : World} {n bp : Nat} {pa : Option Addr} {pb pc : Nat} {zs : List Int} {b0 b1 : Int} {old cs : Array Value} (hz : W.heap[bp]? = some (.cells old 116 (0, 0))) (hbp : w.heap.size + 2 ≤ bp) (hres : W.heap[w.heap.size + 1]? = some (.cells cs 116 (0, 0))) (hcs : cs.size = 9)
    (hI : IntsAt .i64 W.heap.size W pa pb 0 n zs) (hcur : n = 0 ∨ ∃ cur, W.heap[pb]? = some (.cells cur 3 (0, 0))) (hlo : n = 0 ∨ w.heap.size ≤ pb) (hnn : pa = none → n = 0 ∧ pc = 0) (hB : Below w.heap.size w W) :
    Be0 w n bp pa pb pc zs b0 b1 (W.setRow bp #[.slice none 0 0, .slice none 0 0, .slice pa n pc, .int .i64 b0, .int .i64 b1, .int .i64 0, .int .i64 0, .slice none 0 0, .slice none 0 0]) := by
  have hg := grown_setRow W bp #[.slice none 0 0, .slice none 0 0, .slice pa n pc, .int .i64 b0, .int .i64 b1, .int .i64 0, .int .i64 0, .slice none 0 0, .slice none 0 0]
  refine ⟨setRow_heap _ _ _ _ _ _ hz, ⟨cs, heap_kept hres hg (fun e => by cases e; omega), hcs⟩, ?_, hI.addr, hlo, hnn, hbp, hB.grown hg hB.size (fun r e => by cases e; omega)⟩
  rcases (hI.own hcur).row with e | ⟨cs', q1, q2⟩
  · exact ⟨.inl e⟩
  · exact ⟨.inr ⟨cs', heap_kept q1 hg (fun e => pass_ne hz 3 (by decide) _ e.symm _ q1), q2⟩⟩
theorem ints_cur {W W' : World} {pb n : Nat} (h : n = 0 ∨ ∃ cur, W.heap[pb]? = some (.cells cur 3 (0, 0))) (hb : Below W.heap.size W W') : n = 0 ∨ ∃ cur, W'.heap[pb]? = some (.cells cur 3 (0, 0)) :=
  h.imp id (fun ⟨cur, hc⟩ => ⟨cur, heap_below hc hb (heap_lt hc)⟩)
set_option maxRecDepth 100000 in
set_option maxHeartbeats 4000000 in
theorem begin_any {w0 w : World} {g nb : Nat} {ws : List Int} {F : Nat → Nat → Int} (h0 : IsG w0 g nb ws F) (hb : Below w0.heap.size w0 w) {a : Option Addr} {b off cap : Nat} {zs : List Int} (hp : IntsAt .i64 w.heap.size w a b off ws.length zs) (hpn : a = none → ws.length = 0 ∧ cap = 0) (b0 b1 : Int) :
    Calls Try.prog 72 #[.pointer (some ⟨g, 0, none⟩), .slice a ws.length cap, .agg #[.int .i64 b0, .int .i64 b1]] w fun e w' => ∃ v : PsV, e = .returned (.agg #[.slice v.wa ws.length v.wc, .slice v.na ws.length v.nc, .slice v.pa ws.length v.pc, .int .i64 b0, .int .i64 b1, .int .i64 0, .int .i64 0, .slice none 0 0, .slice none 0 0]) ∧
      BgL v w0.heap.size w.heap.size w'.heap.size ws F w' ∧ IntsAt .i64 w'.heap.size w' v.pa v.pb 0 ws.length zs ∧ (ws.length = 0 ∨ w.heap.size ≤ v.pb) ∧ (v.pa = none → ws.length = 0 ∧ v.pc = 0) ∧ Below w.heap.size w w' := by
  have hsm := h0.small
  have hzl := hp.length
  have HZL := Lib.hid hzl
  have HFit := Lib.hid hp.fits
  have hb2 : Below w.heap.size w ((w.alloc (.cells #[.int .i64 b0, .int .i64 b1] 46)).alloc (.cells #[.slice none 0 0, .slice none 0 0, .slice none 0 0, .int .i64 0, .int .i64 0, .int .i64 0, .int .i64 0, .slice none 0 0, .slice none 0 0] 116)) := ((Below.refl _ w).alloc (Nat.le_refl _) _).alloc (by simp) _
  have hbx : ((w.alloc (.cells #[.int .i64 b0, .int .i64 b1] 46)).alloc (.cells #[.slice none 0 0, .slice none 0 0, .slice none 0 0, .int .i64 0, .int .i64 0, .int .i64 0, .int .i64 0, .slice none 0 0, .slice none 0 0] 116)).heap[w.heap.size]? = some (.cells #[.int .i64 b0, .int .i64 b1] 46 (0, 0)) := heap_alloc (heap_new (w := w) _ rfl) _
  have hrs : ((w.alloc (.cells #[.int .i64 b0, .int .i64 b1] 46)).alloc (.cells #[.slice none 0 0, .slice none 0 0, .slice none 0 0, .int .i64 0, .int .i64 0, .int .i64 0, .int .i64 0, .slice none 0 0, .slice none 0 0] 116)).heap[w.heap.size + 1]? = some (.cells #[.slice none 0 0, .slice none 0 0, .slice none 0 0, .int .i64 0, .int .i64 0, .int .i64 0, .int .i64 0, .slice none 0 0, .slice none 0 0] 116 (0, 0)) := heap_new (w := w.alloc _) _ (by simp)
  have HB2 := Lib.hid hb2
  have HBX := Lib.hid hbx
  have HRS := Lib.hid hrs
  have HP := Lib.hid (hp.kept hb2 (Nat.le_refl _))
  have HG := Lib.hid h0
  have HB0 := Lib.hid hb
  have HPN := Lib.hid hpn
  clear hb2 hbx hrs hp h0 hb hpn hzl
  go_enter Try.func72, Try.ntmps72
  go_upto_region 1 with fail
  obtain ⟨w2, hw2⟩ : ∃ w2, (w.alloc (.cells #[.int .i64 b0, .int .i64 b1] 46)).alloc (.cells #[.slice none 0 0, .slice none 0 0, .slice none 0 0, .int .i64 0, .int .i64 0, .int .i64 0, .int .i64 0, .slice none 0 0, .slice none 0 0] 116) = w2 := ⟨_, rfl⟩
  rw [hw2] at HB2 HBX HRS HP ⊢
  clear hw2
  go_cut [7] from 9 to 12 (fun s7 wx => ∃ bp pa pb pc, s7 = .pointer (some ⟨bp, 0, none⟩) ∧ Hid (Be0 w ws.length bp pa pb pc zs b0 b1 wx))
  case first =>
    have hL0 : ∀ W, Below w2.heap.size w2 W → W.cell? ⟨w.heap.size, 0, none⟩ = some (.int .i64 b0) := fun W hW => heap_cell (heap_below HBX.out hW (heap_lt HBX.out)) rfl
    have hL1 : ∀ W, Below w2.heap.size w2 W → W.cell? ⟨w.heap.size, 1, none⟩ = some (.int .i64 b1) := fun W hW => heap_cell (heap_below HBX.out hW (heap_lt HBX.out)) rfl
    have HCl : Hid (∀ W, Below w2.heap.size w2 W → Calls Try.prog 54 #[.slice a ws.length cap] W fun e w' => ∃ pa pb pc, e = .returned (.slice pa ws.length pc) ∧ IntsAt .i64 w'.heap.size w' pa pb 0 ws.length zs ∧ (ws.length = 0 ∨ W.heap.size ≤ pb) ∧ Below W.heap.size W w' ∧ (pa = none → ws.length = 0 ∧ pc = 0) ∧ (ws.length = 0 ∨ ∃ cur, w'.heap[pb]? = some (.cells cur 3 (0, 0)))) := Lib.hid (fun W hW => (cloneI_any (HP.out.kept hW HB2.out.size) HPN.out (by omega)).mono (fun e w' ⟨pa, pb, pc, k1, k2, k3, k4, k5, k6, k7⟩ => by rw [HZL.out] at k1 k3 k4 k6 k7; exact ⟨pa, pb, pc, k1, k3, k4, k5, k6, k7⟩))
    clear HG HB0
    refine (wpIn_wide (n := 3)).1 ?_
    refine region_T_calm (fun X => Below w2.heap.size w2 X) (fun _ => true) rfl (by kernel_rfl) ?_
    change AnyT _ _ _ _ _ _ _ _ 6 _ _ (World.drew _)
    have hd : Below w2.heap.size w2 w2.drew := (Below.refl _ _).drew
    refine AnyT.take (i := 0) (v := .slice a ws.length cap) rfl rfl (by kernel_rfl) (by kernel_rfl) (by kernel_rfl) (by kernel_rfl) (by kernel_rfl) (fun _ _ _ h => h) (by kernel_rfl) (fun x hx => by go_simp) (fun _ => rfl) hd ?_
    try simp only [List.getElem_toArray, List.getElem_cons_zero, List.getElem_cons_succ, Act.put, List.setIfInBounds_toArray, List.set_cons_zero, List.set_cons_succ]
    refine AnyT.take (i := 2) (v := .agg #[.int .i64 b0, .int .i64 b1]) rfl rfl (by kernel_rfl) (by kernel_rfl) (by kernel_rfl) (by kernel_rfl) (by kernel_rfl) (fun _ _ _ h => h) (by kernel_rfl) (fun x hx => by have c0 := hL0 x hx; have c1 := hL1 x hx; go_simp) (fun _ => rfl) hd ?_
    try simp only [List.getElem_toArray, List.getElem_cons_zero, List.getElem_cons_succ, Act.put, List.setIfInBounds_toArray, List.set_cons_zero, List.set_cons_succ]
    refine AnyT.ready (rs := [1, 4]) (by kernel_rfl) (by simp) ?_
    refine ReadyT.cons rfl (fun K hK => ?_) ?_
    · go_simp
      refine ⟨trivial, (callsIn_wide.2 (HCl.out _ hd)).mono ?_⟩
      rintro e w4 ⟨pa, pb, pc, rfl, hI, hnew, hbb, hnn, hcur⟩
      have hS4 : Below w2.heap.size w2 w4 := hd.trans (hbb.mono (Nat.le_refl _))
      have hz4 := hS4.size
      have hS5 : Below w2.heap.size w2 (w4.alloc (.cells #[.slice none 0 0, .slice none 0 0, .slice none 0 0, .int .i64 0, .int .i64 0, .int .i64 0, .int .i64 0, .slice none 0 0, .slice none 0 0] 116)) := hS4.alloc hz4 _
      have hb5 : Below w4.heap.size w4 (w4.alloc (.cells #[.slice none 0 0, .slice none 0 0, .slice none 0 0, .int .i64 0, .int .i64 0, .int .i64 0, .int .i64 0, .slice none 0 0, .slice none 0 0] 116)) := (Below.refl _ _).alloc (Nat.le_refl _) _
      refine hK _ _ (fun _ => hS4) ?_
      clear hK K
      try simp only [List.getElem_toArray, List.getElem_cons_zero, List.getElem_cons_succ, Act.put, List.setIfInBounds_toArray, List.set_cons_zero, List.set_cons_succ]
      refine AnyT.take (i := 3) (v := .agg #[.slice none 0 0, .slice none 0 0, .slice pa ws.length pc, .int .i64 b0, .int .i64 b1, .int .i64 0, .int .i64 0, .slice none 0 0, .slice none 0 0]) rfl rfl (by kernel_rfl) (by kernel_rfl) (by kernel_rfl) (by kernel_rfl) (by kernel_rfl) (fun _ _ _ h => h) (by kernel_rfl) (fun x hx => by go_simp) (fun _ => rfl) hS4 ?_
      try simp only [List.getElem_toArray, List.getElem_cons_zero, List.getElem_cons_succ, Act.put, List.setIfInBounds_toArray, List.set_cons_zero, List.set_cons_succ]
      refine AnyT.ready (rs := [4]) (by kernel_rfl) (by simp) (ReadyT.cons rfl (fun K hK => ?_) ReadyT.nil)
      go_simp
      refine hK _ _ (fun _ => hS5) ?_
      clear hK K
      try simp only [List.getElem_toArray, List.getElem_cons_zero, List.getElem_cons_succ, Act.put, List.setIfInBounds_toArray, List.set_cons_zero, List.set_cons_succ]
      refine AnyT.ready (rs := [5]) (by kernel_rfl) (by simp) (ReadyT.cons rfl (fun K hK => ?_) ReadyT.nil)
      refine stepIn_store_row rfl 116 _ _ rfl w4.heap.size #[.slice none 0 0, .slice none 0 0, .slice pa ws.length pc, .int .i64 b0, .int .i64 b1, .int .i64 0, .int .i64 0, .slice none 0 0, .slice none 0 0] rfl rfl 116 _ (heap_new (w := w4) _ rfl) (by kernel_rfl) rfl (by kernel_rfl) ?_
      refine hK _ _ (fun _ => ?_) ?_
      · exact (hS5.grown (grown_setRow _ w4.heap.size _) hS5.size (fun r e => by cases e; exact hz4))
      clear hK K
      try simp only [List.getElem_toArray, List.getElem_cons_zero, List.getElem_cons_succ, Act.put, List.setIfInBounds_toArray, List.set_cons_zero, List.set_cons_succ]
      refine AnyT.done (by kernel_rfl) (noPan_normal ?_) _
      go_wp2
      go_meet
      exact ⟨_, _, _, _, rfl, Lib.hid (be0_mk (heap_new (w := w4) _ rfl) (by have := HB2.out.size; have := heap_lt HRS.out; omega) (heap_below HRS.out hS5 (heap_lt HRS.out)) rfl ((hI.kept hb5 (Nat.le_refl _)).mono hb5.size) (ints_cur hcur hb5) (hnew.imp id (fun g => Nat.le_trans HB2.out.size g)) hnn (HB2.out.trans (hS5.mono HB2.out.size)))⟩
    · refine ReadyT.cons rfl (fun K hK => ?_) ReadyT.nil
      go_simp
      have hS3 : Below w2.heap.size w2 (w2.alloc (.cells #[.slice none 0 0, .slice none 0 0, .slice none 0 0, .int .i64 0, .int .i64 0, .int .i64 0, .int .i64 0, .slice none 0 0, .slice none 0 0] 116)).drew := ((Below.refl _ _).alloc (Nat.le_refl _) _).drew
      refine hK _ _ (fun _ => hS3) ?_
      clear hK K
      try simp only [List.getElem_toArray, List.getElem_cons_zero, List.getElem_cons_succ, Act.put, List.setIfInBounds_toArray, List.set_cons_zero, List.set_cons_succ]
      refine AnyT.ready (rs := [1]) (by kernel_rfl) (by simp) (ReadyT.cons rfl (fun K hK => ?_) ReadyT.nil)
      go_simp
      refine ⟨trivial, (callsIn_wide.2 (HCl.out _ hS3)).mono ?_⟩
      rintro e w4 ⟨pa, pb, pc, rfl, hI, hnew, hbb, hnn, hcur⟩
      have hS4 : Below w2.heap.size w2 w4 := hS3.trans (hbb.mono hS3.size)
      have hz4 := hS4.size
      have HNA := nine_thru hbb
      refine hK _ _ (fun _ => hS4) ?_
      clear hK K
      try simp only [List.getElem_toArray, List.getElem_cons_zero, List.getElem_cons_succ, Act.put, List.setIfInBounds_toArray, List.set_cons_zero, List.set_cons_succ]
      refine AnyT.take (i := 3) (v := .agg #[.slice none 0 0, .slice none 0 0, .slice pa ws.length pc, .int .i64 b0, .int .i64 b1, .int .i64 0, .int .i64 0, .slice none 0 0, .slice none 0 0]) rfl rfl (by kernel_rfl) (by kernel_rfl) (by kernel_rfl) (by kernel_rfl) (by kernel_rfl) (fun _ _ _ h => h) (by kernel_rfl) (fun x hx => by go_simp) (fun _ => rfl) hS4 ?_
      try simp only [List.getElem_toArray, List.getElem_cons_zero, List.getElem_cons_succ, Act.put, List.setIfInBounds_toArray, List.set_cons_zero, List.set_cons_succ]
      refine AnyT.ready (rs := [5]) (by kernel_rfl) (by simp) (ReadyT.cons rfl (fun K hK => ?_) ReadyT.nil)
      refine stepIn_store_row rfl 116 _ _ rfl w2.heap.size #[.slice none 0 0, .slice none 0 0, .slice pa ws.length pc, .int .i64 b0, .int .i64 b1, .int .i64 0, .int .i64 0, .slice none 0 0, .slice none 0 0] rfl rfl 116 _ HNA (by kernel_rfl) rfl (by kernel_rfl) ?_
      refine hK _ _ (fun _ => ?_) ?_
      · exact (hS4.grown (grown_setRow _ w2.heap.size _) hz4 (fun r e => by cases e; exact Nat.le_refl _))
      clear hK K
      try simp only [List.getElem_toArray, List.getElem_cons_zero, List.getElem_cons_succ, Act.put, List.setIfInBounds_toArray, List.set_cons_zero, List.set_cons_succ]
      refine AnyT.done (by kernel_rfl) (noPan_normal ?_) _
      go_wp2
      go_meet
      exact ⟨_, _, _, _, rfl, Lib.hid (be0_mk HNA (by have := HB2.out.size; have := heap_lt HRS.out; omega) (heap_below HRS.out hS4 (heap_lt HRS.out)) rfl hI hcur (hnew.imp id (fun g => Nat.le_trans HB2.out.size (Nat.le_trans hS3.size g))) hnn (HB2.out.trans (hS4.mono HB2.out.size)))⟩
  case rest =>
    obtain ⟨bp, pa, pb, pc, rfl, H0⟩ := hcut
    have HR0 : Hid (BeR w w0.heap.size ws F bp 0 0 (.slice none 0 0) (.slice none 0 0) (fun _ => .nilFunc) pa pb pc zs b0 b1 wc) := Lib.hid ⟨H0.out.box, H0.out.res, World.ownsRow_nil _ _ _ _, World.ownsRow_nil _ _ _ _, fun a ha => by omega, H0.out.part, H0.out.pad, H0.out.plo, H0.out.blo, HB0.out.size, H0.out.below⟩
    have HPn := Lib.hid H0.out.pnil
    have hlo := H0.out.blo
    clear H0 HBX HRS HP HB2
    go_wp2
    go_loopw [15] (fun i wr => ∃ (k : Nat) (wv nv : Value) (ne : Nat → Value), i = .int .i64 k ∧ k ≤ ws.length ∧ Hid (BeR w w0.heap.size ws F bp k k wv nv ne pa pb pc zs b0 b1 wr)) (fun i _ => ws.length - (intOf i).toNat)
    case atStart => exact ⟨0, _, _, _, rfl, Nat.zero_le _, HR0⟩
    case round =>
      clear HR0
      obtain ⟨k, wv, nv, ne, rfl, hk, HR⟩ := hrel
      obtain ⟨aw, cw, rfl, hcw, haw⟩ := xown_slice HR.out.wown
      obtain ⟨an, cn, rfl, hcn, han⟩ := xown_slice HR.out.nown
      by_cases hlt : k < ws.length
      · have HWt : Hid (∀ W, Below wr.heap.size wr W → Calls Try.prog 43 #[.pointer (some ⟨g, 0, none⟩), .int .i64 (k : Int)] W fun e w' => e = .returned (.int .i64 (ws.getD k 0)) ∧ W = w') := Lib.hid (fun W hW => by
          have := weightAt_any ((HG.out.below HB0.out).below ((HR.out.below.trans (hW.mono HR.out.below.size)))) (k : Int)
          rwa [show wtOf ws (k : Int) = ws.getD k 0 by unfold wtOf; rw [if_pos ⟨by omega, by omega⟩, Int.toNat_natCast]] at this)
        have HT : Hid (ws.take (k + 1) = ws.take k ++ [ws.getD k 0]) := Lib.hid (by rw [List.take_succ_eq_append_getElem hlt, List.getD_eq_getElem?_getD, List.getElem?_eq_getElem hlt]; rfl)
        obtain ⟨x, hx⟩ : ∃ x, ws.getD k 0 = x := ⟨_, rfl⟩
        rw [hx] at HWt HT
        clear hx
        obtain ⟨i0, hi, hz0, hz1, hz2⟩ := info_parts Try.infoI64
        have HI := Lib.hid hi
        have HZ0 := Lib.hid hz0
        have HZ1 := Lib.hid hz1
        have HZ2 := Lib.hid hz2
        clear hi hz0 hz1 hz2
        have zr := HR.out.below.size
        go_upto_region 5 with fail
        have HR1 := Lib.hid (HR.out.on (((Below.refl _ wr).drew).alloc (Nat.le_refl _) (.cells #[.int .i64 x] 2)))
        have HOWN := Lib.hid HR1.out.wown
        have HNEW : Hid (∀ j u, [Value.int .i64 x][j]? = some u → (wr.drew.alloc (.cells #[.int .i64 x] 2)).cell? ((⟨wr.heap.size, 0, none⟩ : Addr).add j) = some u) := Lib.hid (cell_one wr.drew _ _)
        go_cut [8, 15] from 18 to 25 (fun s8 s15 wx => s8 = .int .i64 k ∧ s15 = .int .i64 k ∧ ∃ aw' cw', Hid (BeR w w0.heap.size ws F bp (k + 1) k (.slice aw' (k + 1) cw') (.slice an k cn) ne pa pb pc zs b0 b1 wx))
        case first =>
          have g0 : wr.cell? ⟨bp, 0, none⟩ = some (.slice aw k cw) := heap_cell HR.out.box rfl
          have ga : (wr.alloc (.cells #[.int .i64 x] 2)).cell? ⟨bp, 0, none⟩ = some (.slice aw k cw) := heap_cell (heap_alloc HR.out.box _) rfl
          go_region_law (first
            | (refine step_append_where rfl (.tmp 19) (.tmp 23) 22 rfl w.heap.size 2 i0 (.int .i64 0) 1 8 Try.underlying22 HI.out HZ0.out HZ1.out HZ2.out rfl (by decide) (.slice aw k cw) k (ivals .i64 (ws.take k)) (by simp [Act.eval]) HOWN.out ⟨wr.heap.size, 0, none⟩ 1 1 [.int .i64 x] (by simp [Act.eval]) rfl HNEW.out (one_val rfl) (by decide) (by unfold maxLen; omega) (by omega) (by simp; omega) ?_; intro g5 cap5 w5 hown5 hg5 hc5 hw5; have hb5 := (HR1.out.grown hg5 (fun r e => ⟨(xown_block HR1.out.wown e).1, by obtain ⟨_, cur, hc⟩ := xown_block HR1.out.wown e; exact ⟨cur, _, hc, .inl rfl⟩⟩)).1; have p0 : w5.cell? ⟨bp, 0, none⟩ = some (.slice aw k cw) := heap_cell hb5 rfl; have p1 := heap_frozen hb5 0; have HE := Lib.hid (HR1.out.weights HT.out hown5 hg5); clear hown5 hg5 hc5 hw5 hb5)
            | (go_simp; go_at_call 43; refine (HWt.out _ (by first | exact Below.refl _ _ | exact (Below.refl _ _).drew)).mono ?_; rintro e w' ⟨rfl, rfl⟩))
          all_goals
            go_wp2
            go_meet
            exact ⟨rfl, rfl, _, _, HE⟩
        case rest =>
          obtain ⟨rfl, rfl, aw', cw', HR2⟩ := hcut
          clear HR HR1 HOWN HNEW HT HWt hcw haw HI HZ0 HZ1 HZ2
          have HNr : Hid (∀ W, Below wc.heap.size wc W → Calls Try.prog 49 #[.pointer (some ⟨g, 0, none⟩), .int .i64 (k : Int)] W (SeqPost w0.heap.size (rowOf ws.length (F k)) W)) := Lib.hid (fun W hW => near_seq hlt HG.out (HB0.out.trans ((HR2.out.below.trans (hW.mono HR2.out.below.size)).mono HB0.out.size)))
          obtain ⟨i0, hi, hz0, hz1, hz2⟩ := info_parts Try.infoSeq
          have HI := Lib.hid hi
          have HZ0 := Lib.hid hz0
          have HZ1 := Lib.hid hz1
          have HZ2 := Lib.hid hz2
          clear hi hz0 hz1 hz2
          have zc := HR2.out.below.size
          have g1 : wc.cell? ⟨bp, 1, none⟩ = some (.slice an k cn) := heap_cell HR2.out.box rfl
          go_upto_region 6 with fail
          go_region_law (first
            | (refine step_append_where rfl (.tmp 27) (.tmp 31) 110 rfl w.heap.size 86 i0 .nilFunc 1 8 Try.underlying110 HI.out HZ0.out HZ1.out HZ2.out rfl (by decide) (.slice an k cn) k (nvals ne k) (by simp [Act.eval]) HOWN.out ⟨w6.heap.size, 0, none⟩ 1 1 [.func gf #[] #[.pointer (some ⟨B1, 0, none⟩), .pointer (some ⟨B2, 0, none⟩)]] (by simp [Act.eval]) rfl HNEW.out (one_val rfl) (by decide) (by unfold maxLen; omega) (by omega) hz7 ?_; intro g5 cap5 w5 hown5 hg5 hc5 hw5; have hb5 := (HR7.out.grown hg5 (fun r e => ⟨(xown_block HR7.out.nown e).1, by obtain ⟨_, cur, hc⟩ := xown_block HR7.out.nown e; exact ⟨cur, _, hc, .inr rfl⟩⟩)).1; have p0 : w5.cell? ⟨bp, 1, none⟩ = some (.slice an k cn) := heap_cell hb5 rfl; have p1 := heap_frozen hb5 1; have HE := Lib.hid (HR7.out.nears HU.out hown5 hg5); clear hown5 hg5 hc5 hw5 hb5)
            | (go_simp; go_at_call 49; refine (HNr.out _ (by first | exact Below.refl _ _ | exact (Below.refl _ _).drew)).mono ?_; rintro e w6 ⟨u, rfl, hsq, hB, gf, B1, B2, rfl, l1, l2⟩; have hB6 : Below wc.heap.size wc w6 := (Below.refl wc.heap.size wc).drew.trans hB; have HR6 := Lib.hid (HR2.out.on hB6); have hb7 := (Below.refl w6.heap.size w6).alloc (Nat.le_refl _) (.cells #[.func gf #[] #[.pointer (some ⟨B1, 0, none⟩), .pointer (some ⟨B2, 0, none⟩)]] 86); have HR7 := Lib.hid (HR6.out.on hb7); have HOWN := Lib.hid HR7.out.nown; have HNEW := Lib.hid (cell_one w6 (.func gf #[] #[.pointer (some ⟨B1, 0, none⟩), .pointer (some ⟨B2, 0, none⟩)]) 86); have HU := Lib.hid (And.intro (hsq.below hb7) (NewSeq.mono (lo' := w.heap.size) ⟨gf, B1, B2, rfl, l1, l2⟩ zc)); have hz7 := HR7.out.below.size; have ga : w6.cell? ⟨bp, 1, none⟩ = some (.slice an k cn) := heap_cell HR6.out.box rfl; have gb : (w6.alloc (.cells #[.func gf #[] #[.pointer (some ⟨B1, 0, none⟩), .pointer (some ⟨B2, 0, none⟩)]] 86)).cell? ⟨bp, 1, none⟩ = some (.slice an k cn) := heap_cell HR7.out.box rfl; clear hsq hB hB6 hb7))
          all_goals
            clear HR2 HNr g1 ga gb p0 p1 HR6 HR7 HOWN HNEW HU
            go_wp2
            go_roundw
            case rel => exact ⟨k + 1, _, _, _, by go_num, by omega, HE⟩
            case measure => simp [intOf]; omega
      · obtain rfl : k = ws.length := by omega
        obtain ⟨cr, hcr, hcz⟩ := HR.out.res
        have hg9 := grown_setRow wr (w.heap.size + 1) #[.slice aw ws.length cw, .slice an ws.length cn, .slice pa ws.length pc, .int .i64 b0, .int .i64 b1, .int .i64 0, .int .i64 0, .slice none 0 0, .slice none 0 0]
        have hc9 := setRow_heap wr (w.heap.size + 1) cr #[.slice aw ws.length cw, .slice an ws.length cn, .slice pa ws.length pc, .int .i64 b0, .int .i64 b1, .int .i64 0, .int .i64 0, .slice none 0 0, .slice none 0 0] 116 (0, 0) hcr
        have hR9 := HR.out.ret hg9 ⟨_, hc9, rfl⟩
        have HC9 := Lib.hid hc9
        have HR9 := Lib.hid hR9
        have HCr := Lib.hid hcr
        clear hg9 hc9 hR9 hcr
        go_upto_region 8 with fail
        refine wp_region_list ?_
        refine wpList_load_row rfl 116 (.tmp 7) rfl bp rfl 116 _ (0, 0) _ HR.out.box Try.underlying116 rfl (by kernel_rfl) ?_
        refine wpList_store_row rfl 116 (.tmp 6) (.tmp 35) rfl (w.heap.size + 1) #[.slice aw ws.length cw, .slice an ws.length cn, .slice pa ws.length pc, .int .i64 b0, .int .i64 b1, .int .i64 0, .int .i64 0, .slice none 0 0, .slice none 0 0] rfl rfl 116 _ HCr.out (by kernel_rfl) hcz (by kernel_rfl) ?_
        generalize wr.setRow (w.heap.size + 1) #[.slice aw ws.length cw, .slice an ws.length cn, .slice pa ws.length pc, .int .i64 b0, .int .i64 b1, .int .i64 0, .int .i64 0, .slice none 0 0, .slice none 0 0] = w9 at *
        go_wp2
        refine bodyPost_ret (v := .agg #[.slice aw ws.length cw, .slice an ws.length cn, .slice pa ws.length pc, .int .i64 b0, .int .i64 b1, .int .i64 0, .int .i64 0, .slice none 0 0, .slice none 0 0]) (results_cell_row rfl _ _ (w.heap.size + 1) 116 _ (0, 0) _ rfl HC9.out Try.underlying116 rfl (by kernel_rfl)) rfl ?_
        obtain ⟨v, rfl, rfl, rfl, rfl, rfl, rfl, rfl, hL⟩ := HR9.out.done
        refine ⟨v, rfl, hL, ⟨HR9.out.pad, HZL.out, by unfold maxLen; omega, ?_, fun i hi => by rw [Nat.zero_add]; exact HR9.out.part.cell hi, HFit.out⟩, HR9.out.plo, HPn.out, HR9.out.below⟩
        by_cases e : ws.length = 0
        · exact .inl e
        · exact .inr (HR9.out.part.lt (by omega))
end Go.Proofs.Ytjpgkocffceeoaa
