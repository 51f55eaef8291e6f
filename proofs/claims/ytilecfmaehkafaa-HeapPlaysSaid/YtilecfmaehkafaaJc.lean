/- Contract of the reference: a row in order. -/
import Derived.Test.YtilecfmaehkafaaJb
set_option linter.unusedVariables false
namespace Go.Proofs.Ytilecfmaehkafaa
open Go.RowKit

/-- A slice's length. -/
def lenOf : Value → Nat
  | .slice _ n _ => n
  | _ => 0
/-- What the slice v owns lies apart from block b. -/
def Apart (w : World) (base : Nat) (v : Value) (b n : Nat) : Prop := n = 0 ∨ ∀ g cur, v.ownBlock = some g → base ≤ g → w.heap[g]? = some (.cells cur 27 (0, 0)) → g ≠ b

set_option maxHeartbeats 2000000 in
theorem sorted_any {w : World} {a : Option Addr} {b len cap : Nat} {row : List (Int × Int)} (h : ItsAt w.heap.size w a b len row) (hcap : len ≤ cap) (hs : len ≤ 100000) :
    Calls Try.prog 16 #[.slice a len cap] w (ItemsPost (Hm.srt kk row) w) := by
  have hrl := h.length
  have HI := Lib.hid h
  have HAP : Hid (Apart w w.heap.size (.slice none 0 0) b len) := Lib.hid (.inr fun g cur h1 h2 h3 => by simp [Value.ownBlock] at h1)
  have hbel := h.below
  clear h
  obtain ⟨i0, hi, hz0, hz1, hz2⟩ := info_parts Try.infoItem
  have HIi := Lib.hid hi
  have HZ0 := Lib.hid hz0
  have HZ1 := Lib.hid hz1
  have HZ2 := Lib.hid hz2
  clear hi hz0 hz1 hz2
  go_enter Try.func16, Try.ntmps16
  go_wp2
  go_loopw [0, 3] (fun r v wr => ∃ (k : Nat) (a : Option Addr) (b n cap : Nat), r = .slice a n cap ∧ n ≤ cap ∧ k + n = len ∧ Hid (ItsAt wr.heap.size wr a b n (Hm.left kk k row)) ∧ Hid (Gath wr w.heap.size 27 2 v k (its (Hm.outs kk k row))) ∧ Hid (Apart wr w.heap.size v b n) ∧ Hid (Below w.heap.size w wr))
    (fun r _ _ => lenOf r)
  case atStart =>
    refine ⟨0, a, b, len, cap, rfl, hcap, by omega, Lib.hid ?_, Lib.hid (.inl ⟨rfl, rfl, _, rfl⟩), Lib.hid ?_, Lib.hid ((Below.refl _ _).alloc (Nat.le_refl _) _)⟩
    · exact (HI.out.kept ((Below.refl _ _).alloc (Nat.le_refl _) _) (Nat.le_refl _)).mono (by simp)
    · rcases hbel with h0 | h0
      · exact .inl h0
      · exact .inr fun g cur h1 h2 h3 e => by omega
  case round =>
    obtain ⟨k, a', b', n', cap', rfl, hc, hkn, hR, hG, hA, hB⟩ := hrel
    by_cases h0 : n' = 0
    · subst h0
      obtain rfl : k = len := by omega
      obtain ⟨a6, cap6, rfl⟩ := hG.out.slice
      go_wp2
      go_ret
      refine ⟨_, rfl, ?_, hB.out⟩
      rw [Hm.srt_length]
      have := hG.out
      rw [Hm.outs_all k row (by omega)] at this
      rw [hrl]
      exact this
    · have hrow := hR.out.length
      have hll : (Hm.left kk k row).length ≠ 0 := by omega
      have hfi : firstI (Hm.left kk k row) = (Hm.first kk (Hm.left kk k row) : Nat) := if_neg hll
      have hfl := Hm.first_lt (kf := kk) hll
      have ha : a' = some ⟨b', 0, none⟩ := hR.out.addr.resolve_left h0
      subst ha
      obtain ⟨q, hq⟩ : ∃ q, Hm.first kk (Hm.left kk k row) = q := ⟨_, rfl⟩
      have hks : k < row.length := by have := Hm.left_length (kf := kk) k row; omega
      have HF := Lib.hid (fun (W : World) (hb : Below wr.heap.size wr W) => first_any (cap := cap') (hR.out.kept hb (Nat.le_refl _)) (by omega) hb.size)
      have HTOP : Hid (Hm.outs kk (k + 1) row = Hm.outs kk k row ++ [(Hm.left kk k row).getD q default]) := Lib.hid (by rw [Hm.outs_snoc k row hks]; unfold Hm.top; rw [hq])
      have HLF : Hid (Hm.left kk (k + 1) row = withoutI (Hm.left kk k row) (q : Int)) := Lib.hid (by rw [Hm.left_snoc k row hks, ← withoutI_first _ hll, hfi, hq])
      rw [hq] at hfl hfi
      have hqn : q < n' := by omega
      have hqi : (q : Int) < (n' : Int) := by omega
      have hqi0 : (0 : Int) ≤ (q : Int) := by omega
      obtain ⟨c0, c1⟩ := hR.out.cell q hqn
      obtain ⟨x, hx⟩ : ∃ x, (Hm.left kk k row).getD q default = x := ⟨_, rfl⟩
      rw [hx] at HTOP c0 c1
      have hbb := hR.out.below.resolve_left h0
      have HQ := Lib.hid hfi
      obtain ⟨a6, cap6, rfl⟩ := hG.out.slice
      have hbz := hB.out.size
      clear hq hx hfl hfi hll hrow
      go_wp2_with fail
      refine (HF.out _ (Below.refl _ _)).mono ?_
      rintro e w1 ⟨rfl, hb1⟩
      rw [HQ.out]
      have d0 := (hb1.cell (p := ⟨b', q * 2, none⟩) hbb).trans c0
      have d1 := (hb1.cell (p := ⟨b', q * 2 + 1, none⟩) hbb).trans c1
      have hbz1 := hb1.size
      have HB1 := Lib.hid hb1
      have HG1 : Hid (Gath w1 w.heap.size 27 2 (.slice a6 k cap6) k (its (Hm.outs kk k row))) := Lib.hid (hG.out.kept hb1)
      clear hb1 c0 c1
      go_wp2_with (at_builtin; refine wpList_append_gathW _ rfl _ _ 29 rfl w.heap.size 27 i0 (.agg #[.int .i64 0, .int .i64 0]) 2 16 Try.underlying29 HIi.out HZ0.out HZ1.out HZ2.out rfl (by decide) (.slice a6 k cap6) k (its (Hm.outs kk k row)) rfl (HG1.out.alloc _) ⟨w1.heap.size, 0, none⟩ 1 1 (its [x]) rfl rfl (cell_two _ _ _) (its_one _) (by decide) (by unfold maxLen; omega) (by omega) (by simp; omega) ?_; intro g5 cap5 w5 row5 hown hgrow hrow hg5; refine Hid.out ?_)
      have hb2 : Below wr.heap.size wr (w1.alloc (.cells #[.int .i64 x.1, .int .i64 x.2] 27)) := HB1.out.alloc hbz1 _
      have hne : some b' ≠ row5 := by
        intro e
        obtain ⟨e1, e2⟩ := hrow b' e.symm
        obtain ⟨e3, cur, e4⟩ := owns_block e2 e1
        rcases hA.out with h | h
        · exact h0 h
        · exact h b' cur e1 e3 ((hb2.block b' hbb).symm.trans e4) rfl
      have hI5 := ((hR.out.kept hb2 (Nat.le_refl _)).turned (Turned.of_grown hgrow) hb2.size (.inr hne)).mono (Nat.le_trans hb2.size hgrow.size)
      have hr5 : ∀ r, row5 = some r → w.heap.size ≤ r := fun r e => (owns_block (hrow r e).2 (hrow r e).1).1
      have hB5 : Below w.heap.size w w5 := ((hB.out.trans (HB1.out.mono hbz)).alloc (by omega) (.cells #[.int .i64 x.1, .int .i64 x.2] 27)).grown hgrow (by simp; omega) hr5
      have hg5b := heap_lt (owns_block hown rfl).2.choose_spec
      have HW := Lib.hid (without_any (cap := cap') hI5 (by omega) (Nat.le_refl _) (q : Int))
      have HO5 := Lib.hid hown
      have HB5 := Lib.hid hB5
      have HG5 := Lib.hid hg5b
      clear hb2 hne hI5 hr5 hB5 hg5b hown hgrow hrow hg5 d0 d1 hbb hbz1
      refine Lib.hid ?_
      go_wp2_with (go_at_call 14; refine HW.out.mono ?_; rintro e w6 ⟨v6, rfl, hg6, hb6⟩; have HG6 := Lib.hid (And.intro hg6 hb6); clear hg6 hb6)
      obtain ⟨hg6, hb6⟩ := HG6.out
      rw [← HLF.out] at hg6
      have hl6 := Hm.left_length (kf := kk) (k + 1) row
      obtain ⟨a7, cap7, b7, rfl, hc7, hbb7, hI7⟩ := hg6.itsAt rfl
      have HO6 : Hid (Gath w6 w.heap.size 27 2 (.slice (some ⟨g5, 0, none⟩) (k + 1) cap5) (k + 1) (its (Hm.outs kk (k + 1) row))) := Lib.hid (by rw [HTOP.out, its_append]; exact Gath.kept (.inr HO5.out) hb6)
      go_roundw
      case rel =>
        refine ⟨k + 1, a7, b7, (Hm.left kk (k + 1) row).length, cap7, rfl, hc7, by omega, Lib.hid hI7, HO6, Lib.hid ?_, Lib.hid (HB5.out.trans (hb6.mono HB5.out.size))⟩
        rcases hbb7 with h | ⟨h, _⟩
        · exact .inl h
        · refine .inr fun g cur e1 _ _ e4 => ?_
          have : g5 = g := by simpa [Value.ownBlock] using e1
          have := HG5.out
          omega
      case measure => simp [lenOf]; omega
end Go.Proofs.Ytilecfmaehkafaa
