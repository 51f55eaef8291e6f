/- Contracts: a node's entry; a tree with a key. -/
import Derived.Test.YtjpgkocffceeoaaGf
set_option linter.unusedVariables false
set_option linter.unusedSectionVars false
namespace Go.Proofs.Ytjpgkocffceeoaa
open Go.RowKit Rk

theorem entry_nil (w : World) : Calls Try.prog 86 #[.pointer none] w fun e w' => e = .returned (.tuple #[.int .i64 0, .int .i64 0, .bool false]) ∧ w = w' := by
  go_enter Try.func86, Try.ntmps86
  go_wp2
  go_ret3
  exact ⟨rfl, rfl⟩
theorem entry_some {w : World} {b : Nat} {k v s : Int} {pl pr : Option Addr} (hr : Raw w b k v s pl pr) : Calls Try.prog 86 #[.pointer (some ⟨b, 0, none⟩)] w fun e w' => e = .returned (.tuple #[.int .i64 k, .int .i64 v, .bool true]) ∧ Turned (fun _ => False) w w' := by
  obtain ⟨c0, c1, c2, c3, c4⟩ := hr.cells
  clear hr
  go_enter Try.func86, Try.ntmps86
  go_wp2
  go_quiet (fail)
  go_wp2
  go_ret3
  exact ⟨rfl, Turned.drewN _ _ _⟩

set_option maxRecDepth 100000 in
set_option maxHeartbeats 4000000 in
theorem with_any (k v : Int) (t : T Int Int) : ∀ {S : Nat → Prop} {w : World} {p : Option Addr}, IsT S w p t → Srt ltI t.list → t.count ≤ 600000 →
    Calls Try.prog 79 #[.pointer p, .int .i64 k, .int .i64 v] w (TreePost (fun c => S c ∨ w.heap.size ≤ c) (fun _ => False) (ins ltI k v t.list) w) := by
  induction t with
  | nil =>
    intro S w p h hs hc
    obtain rfl : p = none := h
    go_enter Try.func79, Try.ntmps79
    go_wp2
    go_ret
    exact ⟨_, .node .nil k v .nil, rfl, IsT.node (.inr (Nat.le_refl _)) (heap_new _ rfl) rfl rfl, rfl, Turned.alloc _ _ _⟩
  | node l k' v' r ihl ihr =>
    intro S w p h hs hc
    obtain ⟨b, pl, pr, rfl, hSb, hr, hl, hrr⟩ := h
    obtain ⟨s', hs'⟩ : ∃ s' : Int, ((l.count + 1 + r.count : Nat) : Int) = s' := ⟨_, rfl⟩
    rw [hs'] at hr
    have hblt := hr.lt
    obtain ⟨c0, c1, c2, c3, c4⟩ := hr.cells
    have hcn : l.count + 1 + r.count ≤ 600000 := hc
    simp only [T.list] at hs
    obtain ⟨w1, hw⟩ : ∃ w1, w.alloc (.cells #[.int .i64 k', .int .i64 v', .int .i64 s', .pointer pl, .pointer pr] 135) = w1 := ⟨_, rfl⟩
    have hz1 : w1.heap.size = w.heap.size + 1 := by rw [← hw]; simp
    have own1 : Raw w1 w.heap.size k' v' s' pl pr := by rw [← hw]; exact heap_new _ rfl
    have t01 : Turned (fun _ => False) w w1 := by rw [← hw]; exact Turned.alloc _ _ _
    have l1 : IsT (fun c => S c ∧ c < w.heap.size) w1 pl l := hl.below_size.turned t01 (fun _ _ _ h => h)
    have r1 : IsT (fun c => S c ∧ c < w.heap.size) w1 pr r := hrr.below_size.turned t01 (fun _ _ _ h => h)
    have old1 := hr.turned t01 id
    have IHL := Lib.hid (ihl l1 hs.split.1 (by omega))
    have IHR := Lib.hid (ihr r1 hs.split.2.1 (by omega))
    have HL1 := Lib.hid l1
    have HR1 := Lib.hid r1
    have HO := Lib.hid own1
    have HOLD := Lib.hid old1
    have HSr := Lib.hid hs
    have HW := Lib.hid hw
    have HZ := Lib.hid hz1
    have HT1 := Lib.hid t01
    have HCN := Lib.hid hcn
    have HS' := Lib.hid hs'
    clear ihl ihr hr hl hrr hs hc hw hz1 own1 t01 l1 r1 old1 hcn hs' hSb
    rcases three k k' with hlt | hgt | rfl
    · have HLT := Lib.hid hlt
      clear hlt
      go_enter Try.func79, Try.ntmps79
      go_wp2_with fail
      rw [HW.out]
      clear c0 c1 c2 c3 c4
      obtain ⟨c0, c1, c2, c3, c4⟩ := HOLD.out.cells
      refine (cmp_lt HLT.out _).mono ?_
      rintro e w' ⟨rfl, rfl⟩
      go_wp2_with fail
      refine (side_lt _).mono ?_
      rintro e w' ⟨rfl, rfl⟩
      go_wp2_with fail
      refine IHL.out.mono ?_
      rintro e w2 ⟨p2, t2, rfl, h2, hl2, tu2⟩
      have o2 := HO.out.turned tu2 id
      obtain ⟨d0, d1, d2, d3, d4⟩ := o2.cells
      have df := o2.frozen 3
      have T2 := Lib.hid tu2
      have H2 := Lib.hid h2
      have HL2 := Lib.hid hl2
      have O2 := Lib.hid o2
      clear h2 hl2 tu2 o2
      go_wp2_with fail
      have t3 : Turned (fun c => c = w.heap.size) w2 (w2.setCell ⟨w.heap.size, 3, none⟩ (.pointer p2)) := Turned.set _ _ _ _
      have o3 := O2.out.left_set p2
      revert t3 o3
      generalize w2.setCell ⟨w.heap.size, 3, none⟩ (.pointer p2) = w3
      intro t3 o3
      have hz := HZ.out
      have l3 : IsT (fun c => (S c ∧ c < w.heap.size) ∨ w1.heap.size ≤ c) w3 p2 t2 := H2.out.turned t3 (fun c _ hc e => by rcases hc with hc | hc <;> omega)
      have r3 : IsT (fun c => (S c ∧ c < w.heap.size) ∨ w1.heap.size ≤ c) w3 pr r := (HR1.out.turned (T2.out.weak (R' := fun _ => False) (fun _ _ h => h)) (fun _ _ _ h => h) |>.turned t3 (fun c _ hc e => by omega)).mono (fun _ _ h => .inl h)
      have hc2 : t2.count ≤ l.count + 1 := by rw [← T.list_length, HL2.out, ← T.list_length]; exact ins_length_le _ _ _
      refine (even_any o3 l3 r3 (fun c hc => by rcases hc with hc | hc <;> omega) (by have := HCN.out; omega)).mono ?_
      rintro e w4 ⟨p4, t4, rfl, h4, hl4, tu4⟩
      have END : TreePost (fun c => S c ∨ w.heap.size ≤ c) (fun _ => False) (ins ltI k v (T.node l k' v' r).list) w (.returned (.pointer p4)) w4 := by
        refine ⟨p4, t4, rfl, h4.mono (fun c _ hc => ?_), ?_, ?_⟩
        · have := t3.size
          have := T2.out.size
          rcases hc with (hc | hc) | hc | hc
          · exact .inl hc.1
          · exact .inr (by omega)
          · exact .inr (by omega)
          · exact .inr (by omega)
        · rw [hl4, HL2.out, T.list, ins_lt _ _ _ _ _ HLT.out]
        · exact (((HT1.out.trans T2.out).step t3 (R' := fun c => c = w.heap.size) (fun i hi e => by omega)).step tu4 (fun i hi e => by omega))
      have HEND := Lib.hid END
      clear END h4 hl4 tu4 l3 r3 t3 o3 hc2 hz
      go_wp2
      go_ret
      exact HEND.out
    · have HLT := Lib.hid hgt
      clear hgt
      go_enter Try.func79, Try.ntmps79
      go_wp2_with fail
      rw [HW.out]
      clear c0 c1 c2 c3 c4
      obtain ⟨c0, c1, c2, c3, c4⟩ := HOLD.out.cells
      refine (cmp_gt HLT.out _).mono ?_
      rintro e w' ⟨rfl, rfl⟩
      go_wp2_with fail
      refine (side_gt _).mono ?_
      rintro e w' ⟨rfl, rfl⟩
      go_wp2_with fail
      refine IHR.out.mono ?_
      rintro e w2 ⟨p2, t2, rfl, h2, hl2, tu2⟩
      have o2 := HO.out.turned tu2 id
      obtain ⟨d0, d1, d2, d3, d4⟩ := o2.cells
      have df := o2.frozen 4
      have T2 := Lib.hid tu2
      have H2 := Lib.hid h2
      have HL2 := Lib.hid hl2
      have O2 := Lib.hid o2
      clear h2 hl2 tu2 o2
      go_wp2_with fail
      have t3 : Turned (fun c => c = w.heap.size) w2 (w2.setCell ⟨w.heap.size, 4, none⟩ (.pointer p2)) := Turned.set _ _ _ _
      have o3 := O2.out.right_set p2
      revert t3 o3
      generalize w2.setCell ⟨w.heap.size, 4, none⟩ (.pointer p2) = w3
      intro t3 o3
      have hz := HZ.out
      have r3 : IsT (fun c => (S c ∧ c < w.heap.size) ∨ w1.heap.size ≤ c) w3 p2 t2 := H2.out.turned t3 (fun c _ hc e => by rcases hc with hc | hc <;> omega)
      have l3 : IsT (fun c => (S c ∧ c < w.heap.size) ∨ w1.heap.size ≤ c) w3 pl l := (HL1.out.turned (T2.out.weak (R' := fun _ => False) (fun _ _ h => h)) (fun _ _ _ h => h) |>.turned t3 (fun c _ hc e => by omega)).mono (fun _ _ h => .inl h)
      have hc2 : t2.count ≤ r.count + 1 := by rw [← T.list_length, HL2.out, ← T.list_length]; exact ins_length_le _ _ _
      refine (even_any o3 l3 r3 (fun c hc => by rcases hc with hc | hc <;> omega) (by have := HCN.out; omega)).mono ?_
      rintro e w4 ⟨p4, t4, rfl, h4, hl4, tu4⟩
      have END : TreePost (fun c => S c ∨ w.heap.size ≤ c) (fun _ => False) (ins ltI k v (T.node l k' v' r).list) w (.returned (.pointer p4)) w4 := by
        refine ⟨p4, t4, rfl, h4.mono (fun c _ hc => ?_), ?_, ?_⟩
        · have := t3.size
          have := T2.out.size
          rcases hc with (hc | hc) | hc | hc
          · exact .inl hc.1
          · exact .inr (by omega)
          · exact .inr (by omega)
          · exact .inr (by omega)
        · rw [hl4, HL2.out, T.list, ins_gt linI _ _ _ _ _ HSr.out HLT.out]
        · exact (((HT1.out.trans T2.out).step t3 (R' := fun c => c = w.heap.size) (fun i hi e => by omega)).step tu4 (fun i hi e => by omega))
      have HEND := Lib.hid END
      clear END h4 hl4 tu4 l3 r3 t3 o3 hc2 hz
      go_wp2
      go_ret
      exact HEND.out
    · go_enter Try.func79, Try.ntmps79
      go_wp2_with fail
      rw [HW.out]
      clear c0 c1 c2 c3 c4
      obtain ⟨c0, c1, c2, c3, c4⟩ := HOLD.out.cells
      refine (cmp_eq k _).mono ?_
      rintro e w' ⟨rfl, rfl⟩
      obtain ⟨d0, d1, d2, d3, d4⟩ := HO.out.cells
      have df := HO.out.frozen 1
      go_wp2
      go_ret
      have t3 : Turned (fun c => c = w.heap.size) w1 (w1.setCell ⟨w.heap.size, 1, none⟩ (.int .i64 v)) := Turned.set _ _ _ _
      have o3 := HO.out.val_set v
      refine ⟨_, .node l k v r, rfl, IsT.node (.inr (Nat.le_refl _)) (by rw [HS'.out]; exact o3) ((HL1.out.turned t3 (fun c _ hc e => by omega)).mono (fun _ _ h => .inl h.1)) ((HR1.out.turned t3 (fun c _ hc e => by omega)).mono (fun _ _ h => .inl h.1)), ?_, HT1.out.step t3 (fun i hi e => by omega)⟩
      rw [T.list, T.list, ins_eq linI _ _ _ _ HSr.out]
end Go.Proofs.Ytjpgkocffceeoaa
