/- Contracts: bytes as a string; a copy of bytes. -/
import Derived.Test.YtnkhpmpoemodiaaVe
import Derived.Laws.BytesArg
import Derived.Lib.LazyBuf
set_option linter.unusedVariables false
namespace Go.Proofs.Ytnkhpmpoemodiaa
open Go.RowKit

theorem conv_ints {B : Nat} {w : World} {a : Option Addr} {b off len : Nat} {zs : List Int} (h : IntsAt .u8 B w a b off len zs) (cap : Nat) :
    (convert 45 9 (.slice a len cap)).run Try.prog w = .ok (.string (strOfNums zs)) w := by
  rcases h.addr with h0 | h0
  · subst h0
    have hz : zs = [] := List.eq_nil_of_length_eq_zero h.length
    subst hz
    cases a with
    | none => exact run_convert_bytes_nil w 45 5 Try.underlying45 Try.underlying5 0 cap 9 Try.underlying9
    | some x =>
      rw [run_convert_bytes_string w _ _ _ _ 0 cap Try.underlying45 Try.underlying5 Try.underlying9]
      have hl := run_loadCells_list (P := Try.prog) w x [] (fun j v hj => by simp at hj)
      have := run_bytesToString (P := Try.prog) w x 0 cap [] hl
      simp at this
      rw [this]
      rfl
  · subst h0
    exact run_convert_bytes_arg w 45 5 Try.underlying45 Try.underlying5 b off len cap zs h.length h.cell 9 Try.underlying9

def ClonePost (w : World) (zs : List Int) (e : Ending) (w' : World) : Prop :=
  ∃ a b cap, e = .returned (.slice a zs.length cap) ∧ zs.length ≤ cap ∧ IntsAt .u8 w'.heap.size w' a b 0 zs.length zs ∧ (zs.length = 0 ∨ w.heap.size ≤ b) ∧ Below w.heap.size w w' ∧ (a = none → zs.length = 0 ∧ cap = 0) ∧ (zs.length = 0 ∨ ∃ cur, w'.heap[b]? = some (.cells cur 5 (0, 0)))
theorem clone_any {B : Nat} {w : World} {a : Option Addr} {b off len cap : Nat} {zs : List Int} (h : IntsAt .u8 B w a b off len zs) (h0 : a = none → len = 0 ∧ cap = 0) (hcap : len ≤ 65536) :
    Calls Try.prog 55 #[.slice a len cap] w (ClonePost w zs) := by
  have heq := fun (w : World) => run_eql_slice_nil (P := Try.prog) w 45 5 a len cap Try.underlying45
  have HL := Lib.hid h.length
  cases a with
  | none =>
    obtain ⟨rfl, rfl⟩ := h0 rfl
    have hz : zs = [] := List.eq_nil_of_length_eq_zero h.length
    subst hz
    clear h h0
    go_enter Try.func55, Try.ntmps55
    go_wp2
    go_ret
    exact ⟨none, 0, 0, rfl, Nat.le_refl _, ⟨.inl rfl, rfl, Nat.zero_le _, .inl rfl, fun i hi => absurd hi (Nat.not_lt_zero _), fun n hn => by simp at hn⟩, .inl rfl, Below.refl _ _, fun _ => ⟨rfl, rfl⟩, .inl rfl⟩
  | some x =>
    obtain ⟨i0, hi, hz0, hz1, hz2⟩ := info_parts Try.infoU8
    have HI := Lib.hid hi
    have HZ0 := Lib.hid hz0
    have HZ1 := Lib.hid hz1
    have HZ2 := Lib.hid hz2
    have H := Lib.hid h
    have hcells : ∀ o : Obj, ∀ j u, (ivals .u8 zs)[j]? = some u → (w.alloc o).cell? (x.add j) = some u := by
      intro o j u hj
      unfold ivals at hj
      rw [List.getElem?_map] at hj
      obtain ⟨n, hn, rfl⟩ := Option.map_eq_some_iff.1 hj
      obtain ⟨hjl, hjn⟩ := List.getElem?_eq_some_iff.1 hn
      have hlen := h.length
      have hx : some x = some ⟨b, off, none⟩ := h.addr.resolve_left (by omega)
      cases hx
      have hc := h.cell j (by omega)
      have hlt : b < w.heap.size := by have := World.block_lt_of_cell? _ _ hc; exact this
      rw [addr_add, World.cell?_alloc_lt w o (a := ⟨b, off + j, none⟩) hlt, hc]
      simp [List.getD, hn]
    have HC := Lib.hid hcells
    clear h h0 hi hz0 hz1 hz2 hcells
    go_enter Try.func55, Try.ntmps55
    go_wp2_with (at_builtin; refine wpList_append_own _ rfl _ _ 45 rfl w.heap.size 5 i0 (.int .u8 0) 1 1 Try.underlying45 HI.out HZ0.out HZ1.out HZ2.out rfl (by decide) (.slice (some ⟨w.heap.size, 0, none⟩) 0 0) 0 [] rfl (World.ownsRow_made w #[] 0 (Nat.le_refl _) (Nat.zero_le _) rfl) x len cap (ivals .u8 zs) rfl (by unfold ivals; rw [List.length_map, HL.out, Nat.mul_one]) (HC.out _) (by unfold ivals; intro u hu; obtain ⟨n, _, rfl⟩ := List.mem_map.1 hu; rfl) (by unfold maxLen; omega) (by omega) (by simp) ?_; intro v' w1 hown hgrow hnil)
    rw [List.nil_append, Nat.zero_add] at hown
    obtain ⟨a5, cap5, b5, rfl, hc1, hc2, hb5, HS⟩ := Gath.ints (.inr hown) HL.out H.out.fits
    have hcel : len = 0 ∨ ∃ cur, w1.heap[b5]? = some (.cells cur 5 (0, 0)) := by
      by_cases h0 : len = 0
      · exact .inl h0
      · refine .inr ?_
        rcases hown.2 with ⟨h1, h2⟩ | ⟨g, c9, cur, h1, _, hg, _⟩
        · exact absurd h2 h0
        · have h3 : a5 = some ⟨b5, 0, none⟩ := HS.addr.resolve_left h0
          rw [h3] at h1
          cases h1
          exact ⟨cur, hg⟩
    have hnc : a5 = none → len = 0 ∧ cap5 = 0 := by
      intro e
      rcases hown.2 with ⟨h1, _⟩ | ⟨g, _, _, h1, _⟩
      · cases h1; exact ⟨rfl, rfl⟩
      · cases h1; cases e
    go_ret
    refine ⟨a5, b5, cap5, ?_, ?_, ?_, ?_, ((Below.refl _ w).alloc (Nat.le_refl _) _).grown hgrow (by simp) (fun k hk => ?_), ?_, ?_⟩
    · show Ending.returned (.slice a5 len cap5) = _
      rw [HL.out]
    · rw [HL.out]; exact hc1
    · rw [HL.out]; exact HS
    · rw [HL.out]; exact hb5
    · simp [Value.ownBlock] at hk; omega
    · rw [HL.out]; exact hnc
    · rw [HL.out]; exact hcel

end Go.Proofs.Ytnkhpmpoemodiaa
