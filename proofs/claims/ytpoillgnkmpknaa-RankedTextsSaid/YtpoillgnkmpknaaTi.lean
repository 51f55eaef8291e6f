/- Contract: a tree without a key. -/
import Derived.Test.YtpoillgnkmpknaaTh
set_option linter.unusedVariables false
set_option linter.unusedSectionVars false
namespace Go.Proofs.Ytpoillgnkmpknaa
open Go.RowKit Rk

set_option maxRecDepth 100000 in
set_option maxHeartbeats 4000000 in
theorem without_step {N : Nat} (HWN : Wo N) (hN : N ≤ 590000) : Wo (N + 1) := by
  intro t k S w p hc h hs hget
  cases t with
  | nil => exact absurd rfl hget
  | node l k' v' r =>
    obtain ⟨b, pl, pr, rfl, hSb, hr, hl, hrr⟩ := h
    obtain ⟨s', hs'⟩ : ∃ s' : Int, ((l.count + 1 + r.count : Nat) : Int) = s' := ⟨_, rfl⟩
    rw [hs'] at hr
    have hblt := hr.lt
    obtain ⟨c0, c1, c2, c3, c4⟩ := hr.cells
    have hcn : l.count + 1 + r.count ≤ N + 1 := hc
    simp only [T.list] at hs hget
    obtain ⟨w1, hw⟩ : ∃ w1, w.alloc (.cells #[.int .i64 k', .int .i64 v', .int .i64 s', .pointer pl, .pointer pr] 77) = w1 := ⟨_, rfl⟩
    have hz1 : w1.heap.size = w.heap.size + 1 := by rw [← hw]; simp
    have own1 : Raw w1 w.heap.size k' v' s' pl pr := by rw [← hw]; exact heap_new _ rfl
    have t01 : Turned (fun _ => False) w w1 := by rw [← hw]; exact Turned.alloc _ _ _
    have l1 : IsT (fun c => S c ∧ c < w.heap.size) w1 pl l := hl.below_size.turned t01 (fun _ _ _ h => h)
    have r1 : IsT (fun c => S c ∧ c < w.heap.size) w1 pr r := hrr.below_size.turned t01 (fun _ _ _ h => h)
    have old1 := hr.turned t01 id
    have IHL := Lib.hid (fun hg => HWN l k _ _ _ (by omega) l1 hs.split.1 hg)
    have IHR := Lib.hid (fun hg => HWN r k _ _ _ (by omega) r1 hs.split.2.1 hg)
    have IHJ := Lib.hid (joined_any HWN hl hrr (hs.sublist (by simp)) (by omega) (by omega) (by omega))
    have HGET := Lib.hid hget
    have HNB := Lib.hid hN
    have HL1 := Lib.hid l1
    have HR1 := Lib.hid r1
    have HO := Lib.hid own1
    have HOLD := Lib.hid old1
    have HSr := Lib.hid hs
    have HW := Lib.hid hw
    have HZ := Lib.hid hz1
    have HT1 := Lib.hid t01
    have HCN := Lib.hid hcn
    have HS' := Lib.hid hs'
    clear HWN hN hget hr hl hrr hs hc hw hz1 own1 t01 l1 r1 old1 hcn hs' hSb
    rcases three k k' with hlt | hgt | rfl
    · have HLT := Lib.hid hlt
      clear hlt
      go_enter Try.func31, Try.ntmps31
      go_wp2_with fail
      refine (cmp_lt HLT.out _).mono ?_
      rintro e w' ⟨rfl, rfl⟩
      go_wp2_with fail
      rw [HW.out]
      clear c0 c1 c2 c3 c4
      obtain ⟨c0, c1, c2, c3, c4⟩ := HOLD.out.cells
      refine (side_lt _).mono ?_
      rintro e w' ⟨rfl, rfl⟩
      go_wp2_with fail
      refine (IHL.out (by have h5 := HGET.out; rw [get_lt linI _ _ _ k HSr.out HLT.out] at h5; exact h5)).mono ?_
      rintro e w2 ⟨p2, t2, rfl, h2, hl2, tu2⟩
      have o2 := HO.out.turned tu2 id
      obtain ⟨d0, d1, d2, d3, d4⟩ := o2.cells
      have df := o2.frozen 3
      have T2 := Lib.hid tu2
      have H2 := Lib.hid h2
      have HL2 := Lib.hid hl2
      have O2 := Lib.hid o2
      clear h2 hl2 tu2 o2
      go_wp2_with fail
      have t3 : Turned (fun c => c = w.heap.size) w2 (w2.setCell ⟨w.heap.size, 3, none⟩ (.pointer p2)) := Turned.set _ _ _ _
      have o3 := O2.out.left_set p2
      revert t3 o3
      generalize w2.setCell ⟨w.heap.size, 3, none⟩ (.pointer p2) = w3
      intro t3 o3
      have hz := HZ.out
      have l3 : IsT (fun c => (S c ∧ c < w.heap.size) ∨ w1.heap.size ≤ c) w3 p2 t2 := H2.out.turned t3 (fun c _ hc e => by rcases hc with hc | hc <;> omega)
      have r3 : IsT (fun c => (S c ∧ c < w.heap.size) ∨ w1.heap.size ≤ c) w3 pr r := (HR1.out.turned (T2.out.weak (R' := fun _ => False) (fun _ _ h => h)) (fun _ _ _ h => h) |>.turned t3 (fun c _ hc e => by omega)).mono (fun _ _ h => .inl h)
      have hc2 : t2.count ≤ l.count := by rw [← T.list_length, HL2.out, ← T.list_length]; exact del_length_le _ _
      refine (even_any o3 l3 r3 (fun c hc => by rcases hc with hc | hc <;> omega) (by have := HCN.out; have := HNB.out; omega)).mono ?_
      rintro e w4 ⟨p4, t4, rfl, h4, hl4, tu4⟩
      have END : TreePost (fun c => S c ∨ w.heap.size ≤ c) (fun _ => False) (del ltI k (T.node l k' v' r).list) w (.returned (.pointer p4)) w4 := by
        refine ⟨p4, t4, rfl, h4.mono (fun c _ hc => ?_), ?_, ?_⟩
        · have := t3.size
          have := T2.out.size
          rcases hc with (hc | hc) | hc | hc
          · exact .inl hc.1
          · exact .inr (by omega)
          · exact .inr (by omega)
          · exact .inr (by omega)
        · rw [hl4, HL2.out, T.list, del_lt linI _ _ _ k HSr.out HLT.out]
        · exact (((HT1.out.trans T2.out).step t3 (R' := fun c => c = w.heap.size) (fun i hi e => by omega)).step tu4 (fun i hi e => by omega))
      have HEND := Lib.hid END
      clear END h4 hl4 tu4 l3 r3 t3 o3 hc2 hz
      go_wp2
      go_ret
      exact HEND.out
    · have HLT := Lib.hid hgt
      clear hgt
      go_enter Try.func31, Try.ntmps31
      go_wp2_with fail
      refine (cmp_gt HLT.out _).mono ?_
      rintro e w' ⟨rfl, rfl⟩
      go_wp2_with fail
      rw [HW.out]
      clear c0 c1 c2 c3 c4
      obtain ⟨c0, c1, c2, c3, c4⟩ := HOLD.out.cells
      refine (side_gt _).mono ?_
      rintro e w' ⟨rfl, rfl⟩
      go_wp2_with fail
      refine (IHR.out (by have h5 := HGET.out; rw [get_gt linI _ _ _ k HSr.out HLT.out] at h5; exact h5)).mono ?_
      rintro e w2 ⟨p2, t2, rfl, h2, hl2, tu2⟩
      have o2 := HO.out.turned tu2 id
      obtain ⟨d0, d1, d2, d3, d4⟩ := o2.cells
      have df := o2.frozen 4
      have T2 := Lib.hid tu2
      have H2 := Lib.hid h2
      have HL2 := Lib.hid hl2
      have O2 := Lib.hid o2
      clear h2 hl2 tu2 o2
      go_wp2_with fail
      have t3 : Turned (fun c => c = w.heap.size) w2 (w2.setCell ⟨w.heap.size, 4, none⟩ (.pointer p2)) := Turned.set _ _ _ _
      have o3 := O2.out.right_set p2
      revert t3 o3
      generalize w2.setCell ⟨w.heap.size, 4, none⟩ (.pointer p2) = w3
      intro t3 o3
      have hz := HZ.out
      have r3 : IsT (fun c => (S c ∧ c < w.heap.size) ∨ w1.heap.size ≤ c) w3 p2 t2 := H2.out.turned t3 (fun c _ hc e => by rcases hc with hc | hc <;> omega)
      have l3 : IsT (fun c => (S c ∧ c < w.heap.size) ∨ w1.heap.size ≤ c) w3 pl l := (HL1.out.turned (T2.out.weak (R' := fun _ => False) (fun _ _ h => h)) (fun _ _ _ h => h) |>.turned t3 (fun c _ hc e => by omega)).mono (fun _ _ h => .inl h)
      have hc2 : t2.count ≤ r.count := by rw [← T.list_length, HL2.out, ← T.list_length]; exact del_length_le _ _
      refine (even_any o3 l3 r3 (fun c hc => by rcases hc with hc | hc <;> omega) (by have := HCN.out; have := HNB.out; omega)).mono ?_
      rintro e w4 ⟨p4, t4, rfl, h4, hl4, tu4⟩
      have END : TreePost (fun c => S c ∨ w.heap.size ≤ c) (fun _ => False) (del ltI k (T.node l k' v' r).list) w (.returned (.pointer p4)) w4 := by
        refine ⟨p4, t4, rfl, h4.mono (fun c _ hc => ?_), ?_, ?_⟩
        · have := t3.size
          have := T2.out.size
          rcases hc with (hc | hc) | hc | hc
          · exact .inl hc.1
          · exact .inr (by omega)
          · exact .inr (by omega)
          · exact .inr (by omega)
        · rw [hl4, HL2.out, T.list, del_gt linI _ _ _ k HSr.out HLT.out]
        · exact (((HT1.out.trans T2.out).step t3 (R' := fun c => c = w.heap.size) (fun i hi e => by omega)).step tu4 (fun i hi e => by omega))
      have HEND := Lib.hid END
      clear END h4 hl4 tu4 l3 r3 t3 o3 hc2 hz
      go_wp2
      go_ret
      exact HEND.out
    · go_enter Try.func31, Try.ntmps31
      go_wp2_with fail
      refine (cmp_eq k _).mono ?_
      rintro e w' ⟨rfl, rfl⟩
      go_wp2_with fail
      refine IHJ.out.mono ?_
      rintro e w2 ⟨p2, t2, rfl, h2, hl2, tu2⟩
      have END : TreePost (fun c => S c ∨ w.heap.size ≤ c) (fun _ => False) (del ltI k (T.node l k v' r).list) w (.returned (.pointer p2)) w2 := ⟨p2, t2, rfl, h2, by rw [hl2, T.list, del_eq linI _ _ (k, v') HSr.out], tu2⟩
      have HEND := Lib.hid END
      clear END h2 hl2 tu2
      go_wp2
      go_ret
      exact HEND.out

theorem wo_all : ∀ N, N ≤ 590001 → Wo N
  | 0, _ => fun u k S w p hc h hs hget => by
    rw [T.nil_of (Nat.le_zero.1 hc)] at hget
    exact absurd rfl hget
  | N + 1, h => without_step (wo_all N (by omega)) (by omega)
theorem without_any {S : Nat → Prop} {w : World} {p : Option Addr} {t : T Int Int} (k : Int) (h : IsT S w p t) (hs : Srt ltI t.list) (hc : t.count ≤ 500000) (hg : get ltI k t.list ≠ none) :
    Calls Try.prog 31 #[.pointer p, .int .i64 k] w (TreePost (fun c => S c ∨ w.heap.size ≤ c) (fun _ => False) (del ltI k t.list) w) :=
  wo_all t.count (by omega) t k S w p (Nat.le_refl _) h hs hg
end Go.Proofs.Ytpoillgnkmpknaa
