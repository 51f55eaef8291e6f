/- The reference's Put. -/
import Derived.Test.YtdnnbdmdngiigaaTu
set_option linter.unusedVariables false
set_option linter.unusedSectionVars false
namespace Go.Proofs.Ytdnnbdmdngiigaa
open Go.RowKit Rk

theorem its_ones : ∀ l : List (Int × Int), ∀ u ∈ its l, u.oneCell' = true
  | [], u, h => by simp [its] at h
  | x :: r, u, h => by
    rw [show its (x :: r) = its [x] ++ its r from by rw [← its_append]; rfl, List.mem_append] at h
    exact h.elim (its_one x u) (its_ones r u)
theorem Gath.roomy {w : World} {base : Nat} {e : TypeId} {size : Nat} {v : Value} {n : Nat} {xs : List Value} (h : Gath w base e size v n xs) : ∃ a cap, v = .slice a n cap ∧ n ≤ cap := by
  rcases h with ⟨rfl, _, ao, rfl⟩ | h
  · exact ⟨ao, 0, rfl, Nat.le_refl _⟩
  · rcases h.2 with ⟨rfl, rfl⟩ | ⟨g, cap, cur, rfl, hb, hg, hnc, _⟩
    · exact ⟨none, 0, rfl, Nat.le_refl _⟩
    · exact ⟨_, cap, rfl, hnc⟩
theorem its_cells {B : Nat} {w : World} {a : Option Addr} {b len : Nat} {D : List (Int × Int)} (h : ItsAt B w a b len D) (i m : Nat) (him : i + m ≤ len) : ∀ j u, (its ((D.drop i).take m))[j]? = some u → w.cell? ((⟨b, i * 2, none⟩ : Addr).add j) = some u := by
  intro j u hu
  have hl : ((D.drop i).take m).length = m := by have := h.length; rw [List.length_take, List.length_drop]; omega
  have hj : j < m * 2 := by
    have := List.getElem?_eq_some_iff.1 hu
    obtain ⟨h1, _⟩ := this
    rw [its_length, hl] at h1
    exact h1
  have hg : ∀ q, q < m → ((D.drop i).take m).getD q default = D.getD (i + q) default := by
    intro q hq
    have := h.length
    simp [List.getD, hq]
  obtain ⟨e1, e2⟩ := its_at ((D.drop i).take m) (j / 2) (by rw [hl]; omega)
  obtain ⟨c1, c2⟩ := h.cell (i + j / 2) (by omega)
  rw [hg _ (by omega)] at e1 e2
  rw [addr_add]
  rcases Nat.mod_two_eq_zero_or_one j with hm | hm
  · have ej : j = j / 2 * 2 := by omega
    rw [← ej, hu] at e1
    rw [e1, ← c1]
    congr 2
    omega
  · have ej : j = j / 2 * 2 + 1 := by omega
    rw [← ej, hu] at e2
    rw [e2, ← c2]
    congr 2
    omega
set_option maxRecDepth 100000 in
set_option maxHeartbeats 1000000 in
theorem rput_any {B : Nat} {w : World} {a : Option Addr} {b len cap : Nat} {l : List (Int × Int)} (h : ItsAt B w a b len l) (hs : len ≤ 100000) (hBs : B ≤ w.heap.size) (hsrt : Srt ltI l) (k v : Int) :
    Calls Try.prog 10 #[.slice a len cap, .int .i64 k, .int .i64 v] w (PairsPost (ins ltI k v l) w) := by
  have hrl := h.length
  have HIP := Lib.hid (ins_parts k v l hsrt)
  have HDr := Lib.hid (rdrop_any (cap := cap) h hs hBs k)
  have hdl := del_length_le (lt := ltI) k l
  have hil := ins_length_le (lt := ltI) k v l
  clear h
  obtain ⟨i0, hi, hz0, hz1, hz2⟩ := info_parts Try.infoPair
  have HIi := Lib.hid hi
  have HZ0 := Lib.hid hz0
  have HZ1 := Lib.hid hz1
  have HZ2 := Lib.hid hz2
  clear hi hz0 hz1 hz2
  generalize del ltI k l = D at *
  obtain ⟨n, hn⟩ : ∃ n, D.length = n := ⟨_, rfl⟩
  have HDL := Lib.hid hn
  go_enter Try.func10, Try.ntmps10
  go_wp2_with fail
  refine HDr.out.mono ?_
  rintro e w1 ⟨v1, rfl, hg1, hb1⟩
  rw [hn] at hg1
  obtain ⟨a1, cap1, b1, rfl, hc1, hbb1, hI1⟩ := Gath.itsAt hg1 hn
  have HI1 := Lib.hid hI1
  have HB1 := Lib.hid hb1
  have HRk := Lib.hid (rrank_any (cap := cap1) hI1 (by omega) k)
  have hrk := rk_le (lt := ltI) k D
  rw [hn] at hrk
  generalize rk ltI k D = r at *
  clear hg1 hb1 hbb1 hI1 HDr hn
  go_wp2_with fail
  refine HRk.out.mono ?_
  rintro e w2 ⟨rfl, rfl⟩
  clear HRk
  by_cases hn0 : n = 0
  · obtain rfl : r = 0 := by omega
    have HD0 : Hid (D = []) := Lib.hid (List.eq_nil_of_length_eq_zero (by rw [HDL.out, hn0]))
    subst hn0
    have hz1 := HB1.out.size
    have HB1a := Lib.hid ((Below.refl w1.heap.size w1).alloc (Nat.le_refl _) (.cells #[] 42))
    cases a1
    all_goals
      go_wp2_with (first
        | (at_builtin; refine wpList_append_src _ (by kernel_rfl) (.tmp 16) (.tmp 19) 27 rfl w1.heap.size 42 i0 (.agg #[.int .i64 0, .int .i64 0]) 2 16 Try.underlying27 HIi.out HZ0.out HZ1.out HZ2.out rfl (by decide) (some ⟨w1.heap.size, 0, none⟩) 0 0 [] rfl (.inl ⟨rfl, rfl, _, rfl⟩) (Nat.le_refl _) _ 0 _ [] rfl rfl (.inl rfl) (by simp) (by decide) (by decide) (by simp) ?_; intro v3 w3 hg3 hb3; rw [Nat.zero_add, List.nil_append] at hg3; obtain ⟨a3, cap3, rfl⟩ := hg3.slice; have HG3 := Lib.hid hg3; have HB3 := Lib.hid (HB1a.out.trans hb3); have hz3 := HB3.out.size; clear hg3 hb3)
        | (at_builtin; refine wpList_append_gath _ rfl (.tmp 21) (.tmp 25) 27 rfl w1.heap.size 42 i0 (.agg #[.int .i64 0, .int .i64 0]) 2 16 Try.underlying27 HIi.out HZ0.out HZ1.out HZ2.out rfl (by decide) (.slice a3 0 cap3) 0 [] rfl (HG3.out.alloc _) ⟨w3.heap.size, 0, none⟩ 1 1 (its [(k, v)]) rfl rfl (cell_two _ _ _) (its_one _) (by decide) (by decide) (by decide) (by simp; omega) ?_; intro v5 w5 hown5 hb5; rw [Nat.zero_add, List.nil_append] at hown5; obtain ⟨a5, cap5, rfl, hc5⟩ := Gath.roomy (.inr hown5); have HO5 := Lib.hid hown5; have HB5 := Lib.hid ((HB3.out.alloc hz3 _).trans hb5); have hz5 := HB5.out.size; clear hown5 hb5)
        | (at_builtin; refine wpList_append_src _ (by kernel_rfl) (.tmp 27) (.tmp 30) 27 rfl w1.heap.size 42 i0 (.agg #[.int .i64 0, .int .i64 0]) 2 16 Try.underlying27 HIi.out HZ0.out HZ1.out HZ2.out rfl (by decide) a5 cap5 1 (its [(k, v)]) rfl (.inr HO5.out) hc5 _ 0 _ [] rfl rfl (.inl rfl) (by simp) (by decide) (by decide) hz5 ?_; intro v7 w7 hg7 hb7; rw [List.append_nil, Nat.add_zero] at hg7; have HG7 := Lib.hid hg7; have HB7 := Lib.hid (HB5.out.trans hb7); clear hg7 hb7))
      go_wp2
      go_ret
      refine ⟨_, rfl, ?_, HB1.out.trans (HB7.out.mono hz1)⟩
      have hg := HG7.out
      rw [HIP.out, HD0.out]
      exact hg.imp (fun h => ⟨h.1, h.2⟩) (fun g => ownsRow_base g hz1)
  · obtain rfl : a1 = some ⟨b1, 0, none⟩ := HI1.out.addr.resolve_left hn0
    have hz1 := HB1.out.size
    have hD100 : n ≤ 100000 := by have := HDL.out; omega
    have HB1a := Lib.hid ((Below.refl w1.heap.size w1).alloc (Nat.le_refl _) (.cells #[] 42))
    have HC1 : Hid (∀ j u, (its (D.take r))[j]? = some u → (w1.alloc (.cells #[] 42)).cell? ((⟨b1, 0, none⟩ : Addr).add j) = some u) := Lib.hid (fun j u hu => by
      have h := its_cells (HI1.out.kept HB1a.out (Nat.le_refl _)) 0 r (by omega) j u
      simpa using h hu)
    have HL1 : Hid ((its (D.take r)).length = r * 2) := Lib.hid (by rw [its_length, List.length_take, HDL.out, Nat.min_eq_left hrk])
    have HL5 : Hid ((its ((D.drop r).take (n - r))).length = (n - r) * 2) := Lib.hid (by rw [its_length, List.length_take, List.length_drop, HDL.out, Nat.min_self])
    have HTK : Hid ((D.drop r).take (n - r) = D.drop r) := Lib.hid (List.take_of_length_le (by rw [List.length_drop, HDL.out]; exact Nat.le_refl _))
    go_wp2_with (first
      | (at_builtin; refine wpList_append_src _ (by kernel_rfl) (.tmp 16) (.tmp 19) 27 rfl w1.heap.size 42 i0 (.agg #[.int .i64 0, .int .i64 0]) 2 16 Try.underlying27 HIi.out HZ0.out HZ1.out HZ2.out rfl (by decide) (some ⟨w1.heap.size, 0, none⟩) 0 0 [] rfl (.inl ⟨rfl, rfl, _, rfl⟩) (Nat.le_refl _) (some ⟨b1, 0, none⟩) r cap1 (its (D.take r)) rfl HL1.out (.inr ⟨_, rfl, HC1.out⟩) (its_ones _) (by unfold maxLen; omega) (by omega) (by simp) ?_; intro v3 w3 hg3 hb3; rw [Nat.zero_add, List.nil_append] at hg3; obtain ⟨a3, cap3, rfl⟩ := hg3.slice; have HG3 := Lib.hid hg3; have HB3 := Lib.hid (HB1a.out.trans hb3); have hz3 := HB3.out.size; clear hg3 hb3)
      | (at_builtin; refine wpList_append_gath _ rfl (.tmp 21) (.tmp 25) 27 rfl w1.heap.size 42 i0 (.agg #[.int .i64 0, .int .i64 0]) 2 16 Try.underlying27 HIi.out HZ0.out HZ1.out HZ2.out rfl (by decide) (.slice a3 r cap3) r (its (D.take r)) rfl (HG3.out.alloc _) ⟨w3.heap.size, 0, none⟩ 1 1 (its [(k, v)]) rfl rfl (cell_two _ _ _) (its_one _) (by decide) (by unfold maxLen; omega) (by omega) (by simp; omega) ?_; intro v5 w5 hown5 hb5; rw [← its_append] at hown5; obtain ⟨a5, cap5, rfl, hc5⟩ := Gath.roomy (.inr hown5); have HO5 := Lib.hid hown5; have HB5 := Lib.hid ((HB3.out.alloc hz3 _).trans hb5); have hz5 := HB5.out.size; have HC5 := Lib.hid (its_cells (HI1.out.kept HB5.out (Nat.le_refl _)) r (n - r) (by omega)); clear hown5 hb5)
      | (at_builtin; refine wpList_append_src _ (by kernel_rfl) (.tmp 27) (.tmp 30) 27 rfl w1.heap.size 42 i0 (.agg #[.int .i64 0, .int .i64 0]) 2 16 Try.underlying27 HIi.out HZ0.out HZ1.out HZ2.out rfl (by decide) a5 cap5 (r + 1) (its (D.take r ++ [(k, v)])) rfl (.inr HO5.out) hc5 _ (n - r) _ (its ((D.drop r).take (n - r))) rfl HL5.out (by by_cases hc : cap1 = r; (exact .inl (by omega)); (exact .inr ⟨⟨b1, r * 2, none⟩, if_neg hc, HC5.out⟩)) (its_ones _) (by unfold maxLen; omega) (by omega) hz5 ?_; intro v7 w7 hg7 hb7; rw [← its_append] at hg7; have HG7 := Lib.hid hg7; have HB7 := Lib.hid (HB5.out.trans hb7); clear hg7 hb7))
    all_goals
      go_wp2
      go_ret
      refine ⟨_, rfl, ?_, HB1.out.trans (HB7.out.mono hz1)⟩
      have hl : (D.take r ++ [(k, v)] ++ D.drop r).length = r + 1 + (n - r) := by rw [List.length_append, List.length_append, List.length_take, List.length_drop, HDL.out, List.length_singleton, Nat.min_eq_left hrk]
      have hg := HG7.out
      rw [HTK.out] at hg
      rw [HIP.out, hl]
      exact hg.imp (fun h => ⟨h.1, h.2⟩) (fun g => ownsRow_base g hz1)
end Go.Proofs.Ytdnnbdmdngiigaa
