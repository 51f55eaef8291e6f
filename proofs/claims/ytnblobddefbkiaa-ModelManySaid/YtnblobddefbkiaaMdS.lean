/- The walk of ModelMany. -/
import Derived.Test.YtnblobddefbkiaaMdR
set_option linter.unusedVariables false
set_option linter.unusedSectionVars false
set_option linter.unusedSimpArgs false
namespace Go.Proofs.Ytnblobddefbkiaa.Md
open Go.RowKit Go.Shelf

def TooP (W : World) (o : Nat) (b : Int) (e : Ending) (w' : World) : Prop := (∃ p : Int × Int, e = .returned (.agg #[.int .i64 p.1, .int .i64 p.2]) ∧ ansB o p b) ∧ Below W.heap.size W w'
theorem check_K0 {W : World} {b n o : Nat} (h : W.heap[b]? = some (.cells (madeCells zP (n * 4)) 39 (0, 0))) (ho : o ≤ 1) (hn : n = 4096 + o) : Calls Try.prog 15 #[.agg #[.int .i64 3, .slice (some ⟨b, 0, none⟩) n n, .slice none 0 0, .slice none 0 0]] W (TooP W o 0) := by
  have hm : ModelAt W.heap.size W ⟨3, List.replicate n oP, [], [], some ⟨b, 0, none⟩, b, 0, n, none, 0, 0, 0, none, 0, 0, 0⟩ :=
    ⟨rows_made (enc := encP) (x := oP) rfl rfl h (by unfold maxLen; omega) (by show (0 : Nat) ≤ maxLen; decide) rfl (List.length_replicate ..).symm, fun p hp => by rw [List.eq_of_mem_replicate hp]; exact ⟨RowsAt.nil rfl rfl, RowsAt.nil rfl rfl⟩, RowsAt.nil rfl rfl, RowsAt.nil rfl rfl⟩
  have hc := check_any hm
  dsimp only [ModelV.m] at hc
  rw [List.length_replicate, List.map_replicate] at hc
  exact hc.mono fun e w' he => ⟨⟨_, he.1, many0 n o ho hn⟩, he.2⟩
theorem check_K1 {W : World} {b n o : Nat} (h : W.heap[b]? = some (.cells (madeCells zL (n * 5)) 50 (0, 0))) (ho : o ≤ 1) (hn : n = 16384 + o) : Calls Try.prog 15 #[.agg #[.int .i64 3, .slice none 0 0, .slice (some ⟨b, 0, none⟩) n n, .slice none 0 0]] W (TooP W o 0) := by
  have hm : ModelAt W.heap.size W ⟨3, [], List.replicate n oL, [], none, 0, 0, 0, some ⟨b, 0, none⟩, b, 0, n, none, 0, 0, 0⟩ :=
    ⟨RowsAt.nil rfl rfl, fun p hp => by simp at hp, rows_made (enc := encL) (x := oL) rfl rfl h (by unfold maxLen; omega) (by unfold fitL; decide) rfl (List.length_replicate ..).symm, RowsAt.nil rfl rfl⟩
  have hc := check_any hm
  dsimp only [ModelV.m] at hc
  rw [List.length_replicate] at hc
  exact hc.mono fun e w' he => ⟨⟨_, he.1, many1 n o ho hn⟩, he.2⟩
theorem check_K2 {W : World} {b n o : Nat} (h : W.heap[b]? = some (.cells (madeCells zE (n * 3)) 52 (0, 0))) (ho : o ≤ 1) (hn : n = 16384 + o) : Calls Try.prog 15 #[.agg #[.int .i64 3, .slice none 0 0, .slice none 0 0, .slice (some ⟨b, 0, none⟩) n n]] W (TooP W o 0) := by
  have hm : ModelAt W.heap.size W ⟨3, [], [], List.replicate n oE, none, 0, 0, 0, none, 0, 0, 0, some ⟨b, 0, none⟩, b, 0, n⟩ :=
    ⟨RowsAt.nil rfl rfl, fun p hp => by simp at hp, RowsAt.nil rfl rfl, rows_made (enc := encE) (x := oE) rfl rfl h (by unfold maxLen; omega) (by unfold fitE; decide) rfl (List.length_replicate ..).symm⟩
  have hc := check_any hm
  dsimp only [ModelV.m] at hc
  rw [List.length_replicate] at hc
  exact hc.mono fun e w' he => ⟨⟨_, he.1, many2 n o ho hn⟩, he.2⟩
theorem check_K3 {W : World} {b bv n o : Nat} (hv : W.heap[bv]? = some (.cells (madeCells zV (n * 2)) 81 (0, 0))) (h : W.heap[b]? = some (.cells #[.string ⟨#[97]⟩, .int .i64 1, .slice (some ⟨bv, 0, none⟩) n n, .slice none 0 0] 39 (0, 0))) (ho : o ≤ 1) (hn : n = 64 + o) : Calls Try.prog 15 #[.agg #[.int .i64 3, .slice (some ⟨b, 0, none⟩) 1 1, .slice none 0 0, .slice none 0 0]] W (TooP W o 1) := by
  have hm : ModelAt W.heap.size W ⟨3, [⟨⟨smA, 1, List.replicate n oV, []⟩, some ⟨bv, 0, none⟩, bv, 0, n, none, 0, 0, 0⟩], [], [], some ⟨b, 0, none⟩, b, 0, 1, none, 0, 0, 0, none, 0, 0, 0⟩ :=
    ⟨rows_block (enc := encP) (fun _ => rfl) h (by show _ = [Value.string smA, .int .i64 1, .slice (some ⟨bv, 0, none⟩) (List.replicate n oV).length n, .slice none 0 0]; rw [List.length_replicate]; rfl) (by show (1 : Nat) ≤ maxLen; decide) (fun p hp => by rw [List.mem_singleton] at hp; subst hp; show (1 : Nat) ≤ maxLen; decide) rfl,
      fun p hp => by
        rw [List.mem_singleton] at hp
        subst hp
        exact ⟨rows_made (enc := encV) (x := oV) rfl rfl hv (by unfold maxLen; omega) (by unfold fitV; decide) rfl (List.length_replicate ..).symm, RowsAt.nil rfl rfl⟩, RowsAt.nil rfl rfl, RowsAt.nil rfl rfl⟩
  have hc := check_any hm
  dsimp only [ModelV.m] at hc
  exact hc.mono fun e w' he => ⟨⟨_, he.1, many3 n o ho hn⟩, he.2⟩
set_option maxRecDepth 100000 in
set_option maxHeartbeats 4000000 in
theorem walk_ModelMany (v0 v1 : Int) (w : World) (hw0 : (Lit.int .i64 v0).wf = true) (hw1 : (Lit.int .i64 v1).wf = true) : Calls Try.prog 4 #[.int .i64 v0, .int .i64 v1] w fun e w' => e = .returned (.bool true) ∧ Below w.heap.size w w' := by
  obtain ⟨o, ho, hand1⟩ : ∃ o : Nat, o ≤ 1 ∧ bits .and .i64 v1 1 = (o : Int) := ⟨(v1 % 2).toNat, by omega, by rw [and_1]; omega⟩
  have hk : bits .and .i64 v0 3 = 0 ∨ bits .and .i64 v0 3 = 1 ∨ bits .and .i64 v0 3 = 2 ∨ bits .and .i64 v0 3 = 3 := by rw [and_3]; omega
  have ho0 : (0 : Int) ≤ (o : Int) := Int.natCast_nonneg o
  have ho1 : (o : Int) ≤ 1 := by omega
  go_enter Try.func4, Try.ntmps4
  go_wp2_with fail
  refine (alive_any _).mono ?_
  rintro e w1 ⟨rfl, hb1⟩
  have HB1 := Lib.hid hb1
  clear hb1
  rcases hk with hk | hk | hk | hk
  · have hmk : ∀ W, Sem.run Try.prog (Instr.makeSlice 22 (.int .i64 (4096 + (o : Int))) (.int .i64 (4096 + (o : Int)))) W = .ok (.slice (some ⟨W.heap.size, 0, none⟩) (4096 + o) (4096 + o)) (W.alloc (.cells (madeCells zP ((4096 + o) * 4)) 39)) := fun W => by rw [show 4096 + (o : Int) = ((4096 + o : Nat) : Int) by omega]; exact madeP W (4096 + o) (by omega)
    go_wp2_with fail
    have hx : ((w1.alloc (.cells #[.int .i64 3, .slice (some ⟨w1.heap.size + 1, 0, none⟩) (4096 + o) (4096 + o), .slice none 0 0, .slice none 0 0] 26)).alloc (.cells (madeCells zP ((4096 + o) * 4)) 39)).heap[w1.heap.size + 1]? = some (.cells (madeCells zP ((4096 + o) * 4)) 39 (0, 0)) := heap_new _ (by simp)
    have hbX : Below w1.heap.size w1 ((w1.alloc (.cells #[.int .i64 3, .slice (some ⟨w1.heap.size + 1, 0, none⟩) (4096 + o) (4096 + o), .slice none 0 0, .slice none 0 0] 26)).alloc (.cells (madeCells zP ((4096 + o) * 4)) 39)) := ((Below.refl _ _).alloc (Nat.le_refl _) _).alloc (by simp) _
    generalize (w1.alloc (.cells #[.int .i64 3, .slice (some ⟨w1.heap.size + 1, 0, none⟩) (4096 + o) (4096 + o), .slice none 0 0, .slice none 0 0] 26)).alloc (.cells (madeCells zP ((4096 + o) * 4)) 39) = X at *
    refine Calls.mono (check_K0 hx ho rfl) ?_
    rintro e w4 ⟨⟨⟨p1, p2⟩, rfl, hp⟩, hb4⟩
    have HB4 := Lib.hid (hbX.trans (hb4.mono hbX.size))
    clear hb4 hbX hx hmk
    unfold ansB at hp
    rcases (show o = 0 ∨ o = 1 by omega) with rfl | rfl
    · rw [if_neg (by decide)] at hp
      have h1 : (p1 == 3) = false := by simpa using hp.1
      have h1' : ¬ p1 = 3 := hp.1
      clear hp
      go_wp2
      go_ret
      exact ⟨rfl, HB1.out.trans ((HB4.out.alloc HB4.out.size _).mono HB1.out.size)⟩
    · rw [if_pos rfl] at hp
      cases hp
      go_wp2
      go_ret
      exact ⟨rfl, HB1.out.trans ((HB4.out.alloc HB4.out.size _).mono HB1.out.size)⟩
  · have hmk : ∀ W, Sem.run Try.prog (Instr.makeSlice 23 (.int .i64 (16384 + (o : Int))) (.int .i64 (16384 + (o : Int)))) W = .ok (.slice (some ⟨W.heap.size, 0, none⟩) (16384 + o) (16384 + o)) (W.alloc (.cells (madeCells zL ((16384 + o) * 5)) 50)) := fun W => by rw [show 16384 + (o : Int) = ((16384 + o : Nat) : Int) by omega]; exact madeL W (16384 + o) (by omega)
    go_wp2_with fail
    have hx : ((w1.alloc (.cells #[.int .i64 3, .slice none 0 0, .slice (some ⟨w1.heap.size + 1, 0, none⟩) (16384 + o) (16384 + o), .slice none 0 0] 26)).alloc (.cells (madeCells zL ((16384 + o) * 5)) 50)).heap[w1.heap.size + 1]? = some (.cells (madeCells zL ((16384 + o) * 5)) 50 (0, 0)) := heap_new _ (by simp)
    have hbX : Below w1.heap.size w1 ((w1.alloc (.cells #[.int .i64 3, .slice none 0 0, .slice (some ⟨w1.heap.size + 1, 0, none⟩) (16384 + o) (16384 + o), .slice none 0 0] 26)).alloc (.cells (madeCells zL ((16384 + o) * 5)) 50)) := ((Below.refl _ _).alloc (Nat.le_refl _) _).alloc (by simp) _
    generalize (w1.alloc (.cells #[.int .i64 3, .slice none 0 0, .slice (some ⟨w1.heap.size + 1, 0, none⟩) (16384 + o) (16384 + o), .slice none 0 0] 26)).alloc (.cells (madeCells zL ((16384 + o) * 5)) 50) = X at *
    refine Calls.mono (check_K1 hx ho rfl) ?_
    rintro e w4 ⟨⟨⟨p1, p2⟩, rfl, hp⟩, hb4⟩
    have HB4 := Lib.hid (hbX.trans (hb4.mono hbX.size))
    clear hb4 hbX hx hmk
    unfold ansB at hp
    rcases (show o = 0 ∨ o = 1 by omega) with rfl | rfl
    · rw [if_neg (by decide)] at hp
      have h1 : (p1 == 3) = false := by simpa using hp.1
      have h1' : ¬ p1 = 3 := hp.1
      clear hp
      go_wp2
      go_ret
      exact ⟨rfl, HB1.out.trans ((HB4.out.alloc HB4.out.size _).mono HB1.out.size)⟩
    · rw [if_pos rfl] at hp
      cases hp
      go_wp2
      go_ret
      exact ⟨rfl, HB1.out.trans ((HB4.out.alloc HB4.out.size _).mono HB1.out.size)⟩
  · have hmk : ∀ W, Sem.run Try.prog (Instr.makeSlice 24 (.int .i64 (16384 + (o : Int))) (.int .i64 (16384 + (o : Int)))) W = .ok (.slice (some ⟨W.heap.size, 0, none⟩) (16384 + o) (16384 + o)) (W.alloc (.cells (madeCells zE ((16384 + o) * 3)) 52)) := fun W => by rw [show 16384 + (o : Int) = ((16384 + o : Nat) : Int) by omega]; exact madeE W (16384 + o) (by omega)
    go_wp2_with fail
    have hx : ((w1.alloc (.cells #[.int .i64 3, .slice none 0 0, .slice none 0 0, .slice (some ⟨w1.heap.size + 1, 0, none⟩) (16384 + o) (16384 + o)] 26)).alloc (.cells (madeCells zE ((16384 + o) * 3)) 52)).heap[w1.heap.size + 1]? = some (.cells (madeCells zE ((16384 + o) * 3)) 52 (0, 0)) := heap_new _ (by simp)
    have hbX : Below w1.heap.size w1 ((w1.alloc (.cells #[.int .i64 3, .slice none 0 0, .slice none 0 0, .slice (some ⟨w1.heap.size + 1, 0, none⟩) (16384 + o) (16384 + o)] 26)).alloc (.cells (madeCells zE ((16384 + o) * 3)) 52)) := ((Below.refl _ _).alloc (Nat.le_refl _) _).alloc (by simp) _
    generalize (w1.alloc (.cells #[.int .i64 3, .slice none 0 0, .slice none 0 0, .slice (some ⟨w1.heap.size + 1, 0, none⟩) (16384 + o) (16384 + o)] 26)).alloc (.cells (madeCells zE ((16384 + o) * 3)) 52) = X at *
    refine Calls.mono (check_K2 hx ho rfl) ?_
    rintro e w4 ⟨⟨⟨p1, p2⟩, rfl, hp⟩, hb4⟩
    have HB4 := Lib.hid (hbX.trans (hb4.mono hbX.size))
    clear hb4 hbX hx hmk
    unfold ansB at hp
    rcases (show o = 0 ∨ o = 1 by omega) with rfl | rfl
    · rw [if_neg (by decide)] at hp
      have h1 : (p1 == 3) = false := by simpa using hp.1
      have h1' : ¬ p1 = 3 := hp.1
      clear hp
      go_wp2
      go_ret
      exact ⟨rfl, HB1.out.trans ((HB4.out.alloc HB4.out.size _).mono HB1.out.size)⟩
    · rw [if_pos rfl] at hp
      cases hp
      go_wp2
      go_ret
      exact ⟨rfl, HB1.out.trans ((HB4.out.alloc HB4.out.size _).mono HB1.out.size)⟩
  · have hmk : ∀ W, Sem.run Try.prog (Instr.makeSlice 36 (.int .i64 (64 + (o : Int))) (.int .i64 (64 + (o : Int)))) W = .ok (.slice (some ⟨W.heap.size, 0, none⟩) (64 + o) (64 + o)) (W.alloc (.cells (madeCells zV ((64 + o) * 2)) 81)) := fun W => by rw [show 64 + (o : Int) = ((64 + o : Nat) : Int) by omega]; exact madeV W (64 + o) (by omega)
    go_wp2_with fail
    have hx : (((w1.alloc (.cells #[.int .i64 3, .slice (some ⟨w1.heap.size + 1 + 1, 0, none⟩) 1 1, .slice none 0 0, .slice none 0 0] 26)).alloc (.cells (madeCells zV ((64 + o) * 2)) 81)).alloc (.cells #[.string ⟨#[97]⟩, .int .i64 1, .slice (some ⟨w1.heap.size + 1, 0, none⟩) (64 + o) (64 + o), .slice none 0 0] 39)).heap[w1.heap.size + 1]? = some (.cells (madeCells zV ((64 + o) * 2)) 81 (0, 0)) := heap_alloc (heap_new _ (by simp)) _
    have hx2 : (((w1.alloc (.cells #[.int .i64 3, .slice (some ⟨w1.heap.size + 1 + 1, 0, none⟩) 1 1, .slice none 0 0, .slice none 0 0] 26)).alloc (.cells (madeCells zV ((64 + o) * 2)) 81)).alloc (.cells #[.string ⟨#[97]⟩, .int .i64 1, .slice (some ⟨w1.heap.size + 1, 0, none⟩) (64 + o) (64 + o), .slice none 0 0] 39)).heap[w1.heap.size + 1 + 1]? = some (.cells #[.string ⟨#[97]⟩, .int .i64 1, .slice (some ⟨w1.heap.size + 1, 0, none⟩) (64 + o) (64 + o), .slice none 0 0] 39 (0, 0)) := heap_new _ (by simp)
    have hbX : Below w1.heap.size w1 (((w1.alloc (.cells #[.int .i64 3, .slice (some ⟨w1.heap.size + 1 + 1, 0, none⟩) 1 1, .slice none 0 0, .slice none 0 0] 26)).alloc (.cells (madeCells zV ((64 + o) * 2)) 81)).alloc (.cells #[.string ⟨#[97]⟩, .int .i64 1, .slice (some ⟨w1.heap.size + 1, 0, none⟩) (64 + o) (64 + o), .slice none 0 0] 39)) := (((Below.refl _ _).alloc (Nat.le_refl _) _).alloc (by simp) _).alloc (by simp; omega) _
    generalize ((w1.alloc (.cells #[.int .i64 3, .slice (some ⟨w1.heap.size + 1 + 1, 0, none⟩) 1 1, .slice none 0 0, .slice none 0 0] 26)).alloc (.cells (madeCells zV ((64 + o) * 2)) 81)).alloc (.cells #[.string ⟨#[97]⟩, .int .i64 1, .slice (some ⟨w1.heap.size + 1, 0, none⟩) (64 + o) (64 + o), .slice none 0 0] 39) = X at *
    refine Calls.mono (check_K3 hx hx2 ho rfl) ?_
    clear hx2
    rintro e w4 ⟨⟨⟨p1, p2⟩, rfl, hp⟩, hb4⟩
    have HB4 := Lib.hid (hbX.trans (hb4.mono hbX.size))
    clear hb4 hbX hx hmk
    unfold ansB at hp
    rcases (show o = 0 ∨ o = 1 by omega) with rfl | rfl
    · rw [if_neg (by decide)] at hp
      have h1 : (p1 == 3) = false := by simpa using hp.1
      have h1' : ¬ p1 = 3 := hp.1
      have h2 : p2 = 1 := hp.2 rfl
      subst h2
      clear hp
      go_wp2
      go_ret
      exact ⟨rfl, HB1.out.trans ((HB4.out.alloc HB4.out.size _).mono HB1.out.size)⟩
    · rw [if_pos rfl] at hp
      cases hp
      go_wp2
      go_ret
      exact ⟨rfl, HB1.out.trans ((HB4.out.alloc HB4.out.size _).mono HB1.out.size)⟩
end Go.Proofs.Ytnblobddefbkiaa.Md
