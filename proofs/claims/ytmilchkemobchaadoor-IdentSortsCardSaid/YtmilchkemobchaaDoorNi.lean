/- Contract: slices.Clone of texts; what is gathered of texts. -/
import Derived.Test.YtmilchkemobchaaDoorNe
import Derived.Test.YtmilchkemobchaaDoorCol
import Derived.Test.YtmilchkemobchaaDoorGbr
import Derived.Test.YtmilchkemobchaaDoorHp
import Derived.Laws.MakeOwn
import Derived.Laws.BytesArg
import Derived.Lib.LazyBuf
set_option linter.unusedVariables false
set_option linter.unusedSectionVars false
namespace Go.Proofs.YtmilchkemobchaaDoor
open Go.RowKit Go.Shelf Ss

attribute [local go_sem] Oper.semAt_some

def svals (l : List ByteArray) : List Value := l.map Value.string
theorem svals_snoc (l : List ByteArray) (x : ByteArray) : svals (l ++ [x]) = svals l ++ [.string x] := by unfold svals; rw [List.map_append]; rfl
theorem Gath.strs {w : World} {base : Nat} {e : TypeId} {v : Value} {n : Nat} {zs : List ByteArray} (h : Gath w base e 1 v n (svals zs)) (hn : zs.length = n) (hf : ∀ s ∈ zs, s.size ≤ maxLen) :
    ∃ a cap b, v = .slice a n cap ∧ n ≤ cap ∧ cap ≤ maxLen ∧ (n = 0 ∨ base ≤ b) ∧ StrsAt w.heap.size w a b 0 n zs := by
  rcases h with ⟨rfl, _, ao, rfl⟩ | h
  · exact ⟨ao, 0, 0, rfl, Nat.le_refl _, Nat.zero_le _, .inl rfl, .inl rfl, hn, Nat.zero_le _, .inl rfl, fun i hi => absurd hi (Nat.not_lt_zero _), hf⟩
  · rcases h.2 with ⟨rfl, rfl⟩ | ⟨g, cap, cur, rfl, hb, hg, hnc, hcm, hcs, htake⟩
    · exact ⟨none, 0, 0, rfl, Nat.le_refl _, Nat.zero_le _, .inl rfl, .inl rfl, hn, Nat.zero_le _, .inl rfl, fun i hi => absurd hi (Nat.not_lt_zero _), hf⟩
    · refine ⟨_, cap, g, rfl, hnc, hcm, .inr hb, .inr rfl, hn, by omega, .inr (Array.getElem?_eq_some_iff.1 hg).1, fun i hi => ?_, hf⟩
      have hz : (svals zs)[i]? = some (.string (atS zs i)) := by
        unfold svals
        rw [List.getElem?_map, List.getElem?_eq_getElem (by omega)]; simp [atS, List.getD, show i < zs.length by omega]
      have := h.cells (g := g) rfl i _ hz
      rwa [addr_add] at this
theorem StrsAt.mono {B B' : Nat} {w : World} {a : Option Addr} {b off len : Nat} {ss : List ByteArray} (h : StrsAt B w a b off len ss) (hB : B ≤ B') : StrsAt B' w a b off len ss :=
  ⟨h.addr, h.length, h.small, h.below.imp id (fun h => by omega), h.cell, h.fits⟩
theorem IsStrs.zz {w : World} {a : Option Addr} {len cap : Nat} {z : List ByteArray} (h : IsStrs w a len cap z) : ∃ b off zs, StrsAt w.heap.size w a b off len zs ∧ (a = none → len = 0 ∧ cap = 0) := by
  obtain ⟨b, off, hi⟩ := h.strs
  refine ⟨b, off, _, hi, fun e => ?_⟩
  rcases h with ⟨_, h1, h2, _⟩ | ⟨x, h1, _⟩
  · exact ⟨h1, h2⟩
  · rw [h1] at e; cases e
theorem Gs.Tryd.infoStr : (Tryd.prog.info? 9).map (fun i => (i.zero, i.size, i.bytes)) = some (some (.string ByteArray.empty), 1, 16) := by kernel_rfl
def CloneSPost (w : World) (zs : List ByteArray) (e : Ending) (w' : World) : Prop :=
  ∃ a b cap, e = .returned (.slice a zs.length cap) ∧ zs.length ≤ cap ∧ StrsAt w'.heap.size w' a b 0 zs.length zs ∧ (zs.length = 0 ∨ w.heap.size ≤ b) ∧ Below w.heap.size w w' ∧ (a = none → zs.length = 0 ∧ cap = 0) ∧ (zs.length = 0 ∨ ∃ cur, w'.heap[b]? = some (.cells cur 9 (0, 0)))
theorem cloneS_any {B : Nat} {w : World} {a : Option Addr} {b off len cap : Nat} {zs : List ByteArray} (h : StrsAt B w a b off len zs) (h0 : a = none → len = 0 ∧ cap = 0) (hcap : len ≤ 65536) :
    Calls Tryd.prog 26 #[.slice a len cap] w (CloneSPost w zs) := by
  have heq := fun (w : World) => run_eql_slice_nil (P := Tryd.prog) w 22 9 a len cap Tryd.underlying22
  have HL := Lib.hid h.length
  cases a with
  | none =>
    obtain ⟨rfl, rfl⟩ := h0 rfl
    have hz : zs = [] := List.eq_nil_of_length_eq_zero h.length
    subst hz
    clear h h0
    go_enter Tryd.func26, Tryd.ntmps26
    go_wp2
    go_ret
    exact ⟨none, 0, 0, rfl, Nat.le_refl _, ⟨.inl rfl, rfl, Nat.zero_le _, .inl rfl, fun i hi => absurd hi (Nat.not_lt_zero _), fun n hn => by simp at hn⟩, .inl rfl, Below.refl _ _, fun _ => ⟨rfl, rfl⟩, .inl rfl⟩
  | some x =>
    obtain ⟨i0, hi, hz0, hz1, hz2⟩ := info_parts Gs.Tryd.infoStr
    have HI := Lib.hid hi
    have HZ0 := Lib.hid hz0
    have HZ1 := Lib.hid hz1
    have HZ2 := Lib.hid hz2
    have H := Lib.hid h
    have hcells : ∀ o : Obj, ∀ j u, (svals zs)[j]? = some u → (w.alloc o).cell? (x.add j) = some u := by
      intro o j u hj
      unfold svals at hj
      rw [List.getElem?_map] at hj
      obtain ⟨n, hn, rfl⟩ := Option.map_eq_some_iff.1 hj
      obtain ⟨hjl, hjn⟩ := List.getElem?_eq_some_iff.1 hn
      have hlen := h.length
      have hx : some x = some ⟨b, off, none⟩ := h.addr.resolve_left (by omega)
      cases hx
      have hc := h.cell j (by omega)
      have hlt : b < w.heap.size := by have := World.block_lt_of_cell? _ _ hc; exact this
      rw [addr_add, World.cell?_alloc_lt w o (a := ⟨b, off + j, none⟩) hlt, hc]
      simp [List.getD, hn]
    have HC := Lib.hid hcells
    clear h h0 hi hz0 hz1 hz2 hcells
    go_enter Tryd.func26, Tryd.ntmps26
    go_wp2_with (at_builtin; refine wpList_append_own _ rfl _ _ 22 rfl w.heap.size 9 i0 (.string ByteArray.empty) 1 16 Tryd.underlying22 HI.out HZ0.out HZ1.out HZ2.out rfl (by decide) (.slice (some ⟨w.heap.size, 0, none⟩) 0 0) 0 [] rfl (World.ownsRow_made w #[] 0 (Nat.le_refl _) (Nat.zero_le _) rfl) x len cap (svals zs) rfl (by unfold svals; rw [List.length_map, HL.out, Nat.mul_one]) (HC.out _) (by unfold svals; intro u hu; obtain ⟨n, _, rfl⟩ := List.mem_map.1 hu; rfl) (by unfold maxLen; omega) (by omega) (by simp) ?_; intro v' w1 hown hgrow hnil)
    rw [List.nil_append, Nat.zero_add] at hown
    obtain ⟨a5, cap5, b5, rfl, hc1, hc2, hb5, HS⟩ := Gath.strs (.inr hown) HL.out H.out.fits
    have hcel : len = 0 ∨ ∃ cur, w1.heap[b5]? = some (.cells cur 9 (0, 0)) := by
      by_cases h0 : len = 0
      · exact .inl h0
      · refine .inr ?_
        rcases hown.2 with ⟨h1, h2⟩ | ⟨g, c9, cur, h1, _, hg, _⟩
        · exact absurd h2 h0
        · have h3 : a5 = some ⟨b5, 0, none⟩ := HS.addr.resolve_left h0
          rw [h3] at h1
          cases h1
          exact ⟨cur, hg⟩
    have hnc : a5 = none → len = 0 ∧ cap5 = 0 := by
      intro e
      rcases hown.2 with ⟨h1, _⟩ | ⟨g, _, _, h1, _⟩
      · cases h1; exact ⟨rfl, rfl⟩
      · cases h1; cases e
    go_ret
    refine ⟨a5, b5, cap5, ?_, ?_, ?_, ?_, ((Below.refl _ w).alloc (Nat.le_refl _) _).grown hgrow (by simp) (fun k hk => ?_), ?_, ?_⟩
    · show Ending.returned (.slice a5 len cap5) = _
      rw [HL.out]
    · rw [HL.out]; exact hc1
    · rw [HL.out]; exact HS
    · rw [HL.out]; exact hb5
    · simp [Value.ownBlock] at hk; omega
    · rw [HL.out]; exact hnc
    · rw [HL.out]; exact hcel


end Go.Proofs.YtmilchkemobchaaDoor
