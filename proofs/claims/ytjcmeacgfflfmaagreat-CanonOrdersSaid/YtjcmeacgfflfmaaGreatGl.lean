/- The iterators over a map, as a loop asks. -/
import Derived.Test.YtjcmeacgfflfmaaGreatGk
import Derived.Test.YtjcmeacgfflfmaaGreatFi
set_option linter.unusedVariables false
set_option linter.unusedSectionVars false
namespace Go.Proofs.YtjcmeacgfflfmaaGreat
open Go.RowKit Go.Shelf Rk

attribute [local go_sem] Oper.semAt_some

theorem each_all (l n₀ : Nat) (N : List (Int × Int)) (J Jx : List (Int × Int) → World → Prop) (hJd : ∀ s A, J s A → J s A.drew)
    (hY : ∀ m pre x W, J pre W → pre ++ [x] <+: N → YieldAt Fence.wide m Tryz.prog l #[.int .i64 x.1, .int .i64 x.2] W fun e W' =>
      (e = .returned (.bool true) ∧ J (pre ++ [x]) W' ∧ Below n₀ W W') ∨ (e = .returned (.bool false) ∧ Jx (pre ++ [x]) W')) : ∀ M, EachAt l n₀ N M J Jx
  | 0 => fun _ _ _ _ _ _ h => absurd h (Nat.not_lt_zero _)
  | M + 1 => each_step l n₀ N M J Jx hJd hY (each_all l n₀ N J Jx hJd hY M)

def encP (x : Int × Int) : Array Value := #[.int .i64 x.1, .int .i64 x.2]
set_option maxRecDepth 100000 in
set_option maxHeartbeats 1000000 in
theorem entries1_in (n l n₀ B1 B2 : Nat) (p : Option Addr) (t : T Int Int) (s : Nat) (J Jx : List (Int × Int) → World → Prop) (hJd : ∀ s A, J s A → J s A.drew) (ht : t.count ≤ 900000) (hs : s ≤ 900000)
    (hY : ∀ pre x W, J pre W → pre ++ [x] <+: t.list.drop s → YieldAt Fence.wide (n - 1) Tryz.prog l (encP x) W fun e W' =>
      (e = .returned (.bool true) ∧ J (pre ++ [x]) W' ∧ Below n₀ W W') ∨ (e = .returned (.bool false) ∧ Jx (pre ++ [x]) W'))
    (W : World) (c1 : W.cell? ⟨B1, 0, none⟩ = some (.pointer p)) (c2 : W.cell? ⟨B2, 0, none⟩ = some (.int .i64 (s : Int))) (hT : IsT (fun c => c < n₀) W p t) (h0 : J [] W) :
    CallsIn Fence.wide n Tryz.prog 154 #[.func (.yield l) #[] #[], .pointer (some ⟨B1, 0, none⟩), .pointer (some ⟨B2, 0, none⟩)] W fun e W' => (∃ v, e = .returned v) ∧
      ((∃ ys, ys = t.list.drop s ∧ J ys W') ∨ (∃ pre, pre <+: t.list.drop s ∧ Jx pre W')) := by
  have HP := Lib.hid (each_all l n₀ (t.list.drop s) J Jx hJd (fun m pre x W hj hl => YieldAt.anyDepth rfl m (hY pre x W hj hl)) (t.count + 1) (n - 1) p t s [] W (Nat.lt_succ_self _) ht hs hT h0 (by simp))
  clear hY hT h0 hJd
  refine callsIn_of_wp Tryz.func154 rfl trivial ?_ rfl
  simp only [Tryz.ntmps154, List.size_toArray, List.length_cons, List.length_nil, Nat.reduceAdd, Nat.reduceSub, Array.replicate_succ, Array.replicate_zero, List.push_toArray, List.append_toArray, List.nil_append, List.cons_append]
  gi_wp2_with (refine ⟨trivial, fun h => (by cases h), ?_⟩; gi_at_call 155; refine HP.out.mono ?_; clear HP; rintro e W1 (⟨rfl, hJ1, _⟩ | ⟨rfl, q, hq, hx⟩))
  · go_end0
    exact ⟨⟨_, rfl⟩, .inl ⟨_, rfl, by simpa using hJ1⟩⟩
  · go_end0
    exact ⟨⟨_, rfl⟩, .inr ⟨q, hq, by simpa using hx⟩⟩

/-- An iterator over what lies below n₀, that hands out D. -/
def IsSeq (W : World) (v : Value) (n₀ : Nat) (D : List (Int × Int)) : Prop :=
  ∃ B1 B2 p t s, v = .func (.func 154) #[] #[.pointer (some ⟨B1, 0, none⟩), .pointer (some ⟨B2, 0, none⟩)] ∧ W.heap[B1]? = some (.cells #[.pointer p] 93 (0, 0)) ∧ W.heap[B2]? = some (.cells #[.int .i64 ((s : Nat) : Int)] 3 (0, 0)) ∧
    IsT (fun c => c < n₀) W p t ∧ t.list.drop s = D ∧ t.count ≤ 900000 ∧ s ≤ 900000 ∧ n₀ ≤ W.heap.size
theorem IsSeq.below {W W' : World} {v : Value} {n₀ : Nat} {D : List (Int × Int)} (h : IsSeq W v n₀ D) (hb : Below W.heap.size W W') : IsSeq W' v n₀ D := by
  obtain ⟨B1, B2, p, t, s, h1, h2, h3, h4, h5, h6, h7, h8⟩ := h
  exact ⟨B1, B2, p, t, s, h1, heap_below h2 hb (heap_lt h2), heap_below h3 hb (heap_lt h3), h4.below hb, h5, h6, h7, Nat.le_trans h8 hb.size⟩
theorem IsSeq.mono {W : World} {v : Value} {n₀ n₁ : Nat} {D : List (Int × Int)} (h : IsSeq W v n₀ D) (hn : n₀ ≤ n₁) (hz : n₁ ≤ W.heap.size) : IsSeq W v n₁ D := by
  obtain ⟨B1, B2, p, t, s, h1, h2, h3, h4, h5, h6, h7, h8⟩ := h
  exact ⟨B1, B2, p, t, s, h1, h2, h3, h4.mono (fun _ _ h => Nat.lt_of_lt_of_le h hn), h5, h6, h7, hz⟩
/-- The function that it is, as a loop over it asks. -/
theorem IsSeq.stopsP {w : World} {v : Value} {n₀ : Nat} {D : List (Int × Int)} (h : IsSeq w v n₀ D) (n : Nat) : ∃ lb, v = .func (.func 154) #[] lb ∧
    SeqP Fence.wide n Tryz.prog 154 lb encP (Below n₀) D w := by
  obtain ⟨B1, B2, p, t, s, h1, h2, h3, h4, rfl, h6, h7, h8⟩ := h
  refine ⟨_, h1, fun l J Jx W hW hJ hJx hY h0 => ?_⟩
  refine (entries1_in n l n₀ B1 B2 p t s J Jx (fun s A hA => hJ s A _ none hA (grown_drew A none) (fun r e => by cases e)) h6 h7 hY W (heap_cell (heap_below h2 hW (heap_lt h2)) rfl) (heap_cell (heap_below h3 hW (heap_lt h3)) rfl) (h4.below hW) h0).mono ?_
  rintro e W' ⟨he, ⟨ys, rfl, hj⟩ | hx⟩
  · exact ⟨he, .inl hj⟩
  · exact ⟨he, .inr hx⟩
theorem IsSeq.stops {w : World} {v : Value} {n₀ : Nat} {D : List (Int × Int)} (h : IsSeq w v n₀ D) (n : Nat) : ∃ lb, v = .func (.func 154) #[] lb ∧
    SeqStopsK Fence.wide n Tryz.prog 154 lb encP (Below n₀) (fun ys => ys = D) (fun pre => pre <+: D) D.length w := by
  obtain ⟨lb, h1, h2⟩ := h.stopsP n
  exact ⟨lb, h1, h2.stops⟩

/-- Its blocks are new. -/
def NewSeq (lo : Nat) (v : Value) : Prop := ∃ g B1 B2, v = .func g #[] #[.pointer (some ⟨B1, 0, none⟩), .pointer (some ⟨B2, 0, none⟩)] ∧ lo ≤ B1 ∧ lo ≤ B2
theorem NewSeq.mono {lo lo' : Nat} {v : Value} (h : NewSeq lo v) (hl : lo' ≤ lo) : NewSeq lo' v := by
  obtain ⟨g, B1, B2, h1, h2, h3⟩ := h
  exact ⟨g, B1, B2, h1, by omega, by omega⟩
def SeqPost (n₀ : Nat) (D : List (Int × Int)) (w : World) (e : Ending) (w' : World) : Prop := ∃ v, e = .returned v ∧ IsSeq w' v n₀ D ∧ Below w.heap.size w w' ∧ NewSeq w.heap.size v
theorem entries_any {w : World} {n₀ : Nat} {p : Option Addr} {t : T Int Int} (s : Nat) (h : IsT (fun c => c < n₀) w p t) (hn : n₀ ≤ w.heap.size) (ht : t.count ≤ 900000) (hs : s ≤ 900000) :
    Calls Tryz.prog 135 #[.pointer p, .int .i64 (s : Int)] w (SeqPost n₀ (t.list.drop s) w) := by
  have b1 : Below w.heap.size w (w.alloc (.cells #[.pointer p] 93)) := (Below.refl _ _).alloc (Nat.le_refl _) _
  have b2 : Below w.heap.size w ((w.alloc (.cells #[.pointer p] 93)).alloc (.cells #[.int .i64 (s : Int)] 3)) := b1.alloc (by simp) _
  have HE : Hid (SeqPost n₀ (t.list.drop s) w (.returned (.func (.func 154) #[] #[.pointer (some ⟨w.heap.size, 0, none⟩), .pointer (some ⟨w.heap.size + 1, 0, none⟩)])) ((w.alloc (.cells #[.pointer p] 93)).alloc (.cells #[.int .i64 (s : Int)] 3))) :=
    Lib.hid ⟨_, rfl, ⟨_, _, p, t, s, rfl, heap_alloc (heap_new _ rfl) _, heap_new _ (by simp), h.below b2, rfl, ht, hs, by simp; omega⟩, b2, ⟨_, _, _, rfl, Nat.le_refl _, by omega⟩⟩
  clear h b1 b2
  go_enter Tryz.func135, Tryz.ntmps135
  go_wp2
  go_ret
  exact HE.out
theorem mall_any {w0 w : World} {m o : Nat} {L : List (Int × Int)} (h0 : IsM w0 m o L) (hb : Below w0.heap.size w0 w) (hs : L.length ≤ 900000) : Calls Tryz.prog 110 #[.pointer (some ⟨m, o, none⟩)] w (SeqPost w0.heap.size L w) := by
  obtain ⟨p, t, cs, h1, h2, h3, rfl, h5⟩ := h0
  replace h1 := heap_below h1 hb (heap_lt h1)
  replace h3 := (h3.below_size.mono (fun _ _ h => h.2)).below hb
  have hz := hb.size
  have hc : w.cell? ⟨m, o, none⟩ = some (.pointer p) := heap_cell h1 h2
  rw [T.list_length] at hs
  have HC := Lib.hid (entries_any 0 h3 hz hs (by omega))
  clear h1 h2 h3 h5 hb
  go_enter Tryz.func110, Tryz.ntmps110
  go_wp2_with fail
  refine HC.out.mono ?_
  rintro e w1 ⟨v, rfl, hsq, hb, hnw⟩
  have HE := Lib.hid (show SeqPost w0.heap.size t.list w (.returned v) w1 from ⟨v, rfl, hsq, hb, hnw⟩)
  clear hsq hb hnw
  go_wp2
  go_ret
  exact HE.out
end Go.Proofs.YtjcmeacgfflfmaaGreat
