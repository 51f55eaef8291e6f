/- Contracts of layer 3: a field's bytes are taken; a number that stands next. -/
import Derived.Test.YtnkhpmpoemodiaaRa
import Derived.Deep.QuietTactic
import Derived.BigQuiet
set_option linter.unusedVariables false
namespace Go.Proofs.Ytnkhpmpoemodiaa
open Go.RowKit

def rtake (zs : List Int) (head n : Nat) (s : RS) : RS × List Int :=
  if s.e = 0 then if zs.length < s.pos + head + n then (rfail s 20, []) else (⟨s.pos + head + n, 0, s.fa⟩, (zs.drop (s.pos + head)).take n) else (s, [])
def TakePost (w : World) (R : Nat) (zs : List Int) (r : RS × List Int) (e : Ending) (w' : World) : Prop :=
  ∃ a cap b off, e = .returned (.slice a r.2.length cap) ∧ r.2.length ≤ cap ∧ (a = none → r.2.length = 0 ∧ cap = 0) ∧ IntsAt .u8 w'.heap.size w' a b off r.2.length r.2 ∧ (r.2.length = 0 ∨ b ≠ R) ∧ RIs w' R zs r.1 ∧ w.grownBy w' (some R)
theorem no_ints (w : World) (a : Option Addr) : IntsAt .u8 w.heap.size w a 0 0 0 [] := ⟨.inl rfl, rfl, Nat.zero_le _, .inl rfl, fun i hi => absurd hi (Nat.not_lt_zero _), fun n hn => by simp at hn⟩
theorem take_nothing {w w' : World} {R : Nat} {zs : List Int} {s : RS} (h : RIs w' R zs s) (hg : w.grownBy w' (some R)) : TakePost w R zs (s, []) (.returned (.slice none 0 0)) w' :=
  ⟨none, 0, 0, 0, rfl, Nat.le_refl _, fun _ => ⟨rfl, rfl⟩, no_ints _ _, .inl rfl, h, hg⟩
theorem drewN_below (w : World) (n : Nat) : Below w.heap.size w (w.drewN n) := by
  refine ⟨rfl, rfl, rfl, Nat.le_refl _, fun _ _ => rfl⟩

theorem take_end {w : World} {R : Nat} {zs : List Int} {pos fa : Nat} {a a' : Option Addr} {cap cap' b off head n : Nat} (H : RAt w R zs ⟨pos, 0, fa⟩ a cap b off) (hle : pos + head + n ≤ zs.length) (hc : n ≤ cap') (hnil : a' = none → n = 0 ∧ cap' = 0)
    (ha : n = 0 ∨ a' = some ⟨b, off + (pos + head), none⟩) (v : Int) (hv : v = ((pos + head + n : Nat) : Int)) (nq : Nat) :
    TakePost w R zs (⟨pos + head + n, 0, fa⟩, (zs.drop (pos + head)).take n) (.returned (.slice a' n cap')) ((w.drewN nq).setCell ⟨R, 1, none⟩ (.int .i64 v)) := by
  subst hv
  have hl : ((zs.drop (pos + head)).take n).length = n := by rw [List.length_take, List.length_drop]; omega
  have hbox : (w.drewN nq).heap[R]? = some (.cells #[.slice a zs.length cap, .int .i64 pos, .int .i64 (0 : Nat), .int .i64 fa] 110 (0, 0)) := H.box
  have g2 : w.grownBy ((w.drewN nq).setCell ⟨R, 1, none⟩ (.int .i64 ((pos + head + n : Nat) : Int))) (some R) := (grown_below (drewN_below w nq) _).trans (grown_set _ R 1 _)
  have hI := H.turned (s' := ⟨pos + head + n, 0, fa⟩) g2 (heap_set hbox 1 _) hle
  have hd := (hI.data.drop (pos + head) (by omega) (if zs.length - (pos + head) = 0 then a' else some ⟨b, off + (pos + head), none⟩) (by split; exact .inl ‹_›; exact .inr rfl)).take n (by omega)
  have hap := H.apart
  refine ⟨a', cap', b, off + (pos + head), by simp only [hl], by simp only [hl]; exact hc, by simp only [hl]; exact hnil, ?_, ?_, ⟨_, _, _, _, hI⟩, g2⟩
  · simp only [hl]
    exact ⟨ha, hl, by have := hd.small; exact this, hd.below, hd.cell, hd.fits⟩
  · simp only [hl]; omega

theorem rtake_any (w : World) (R : Nat) (zs : List Int) (s : RS) (head n : Nat) (h : RIs w R zs s) (hk : s.pos + head ≤ zs.length) (hn : n ≤ 9223372036854775807) :
    Calls Try.prog 91 #[.pointer (some ⟨R, 0, none⟩), .int .i64 head, .int .i64 n] w (TakePost w R zs (rtake zs head n s)) := by
  have H0 := Lib.hid h
  have HF := Lib.hid (fun W (hb : Below w.heap.size w W) => rfail_any W R zs s 20 (h.stay hb))
  obtain ⟨a, cap, b, off, h⟩ := h
  obtain ⟨pos, er, fa⟩ := s
  obtain ⟨c0, c1, c2, c3, f1, f2, f3⟩ := four_cells h.box
  have hlt := heap_lt h.box
  by_cases he : er = 0
  · subst he
    obtain ⟨len, hlen⟩ : ∃ len, zs.length = len := ⟨_, rfl⟩
    have hcap := h.hcap
    have hfew := h.few
    have hdat := h.data.small
    rw [hlen] at c0 hcap hfew hdat
    simp only at hk
    rw [hlen] at hk
    have HL := Lib.hid hlen
    have H := Lib.hid h
    clear hlen h
    by_cases hsh : len < pos + head + n
    · have HR : Hid (rtake zs head n ⟨pos, 0, fa⟩ = (rfail ⟨pos, 0, fa⟩ 20, [])) := Lib.hid (by unfold rtake; rw [if_pos rfl, if_pos (by rw [HL.out]; exact hsh)])
      have HQ : Hid (∀ W, Below w.heap.size w W → Calls Try.prog 103 #[.pointer (some ⟨R, 0, none⟩), .int .i64 20] W (FailPost W R zs (rfail ⟨pos, 0, fa⟩ 20))) := HF.out
      clear HF
      by_cases hkc : cap = pos + head
      · go_enter Try.func91, Try.ntmps91
        go_wp2
        go_quiet (fail)
        go_wp2_with fail
        refine (HQ.out _ (drewN_below w _)).mono ?_
        rintro e w2 ⟨rfl, hr, hg⟩
        go_wp2
        go_ret
        rw [HR.out]
        exact take_nothing hr ((grown_below (drewN_below w _) _).trans hg)
      · cases a with
        | none => exact absurd (H.out.nil rfl).2 (by have := H.out.nil rfl; omega)
        | some x =>
          go_enter Try.func91, Try.ntmps91
          go_wp2
          go_quiet (fail)
          go_wp2_with fail
          refine (HQ.out _ (drewN_below w _)).mono ?_
          rintro e w2 ⟨rfl, hr, hg⟩
          go_wp2
          go_ret
          rw [HR.out]
          exact take_nothing hr ((grown_below (drewN_below w _) _).trans hg)
    · have HR : Hid (rtake zs head n ⟨pos, 0, fa⟩ = (⟨pos + head + n, 0, fa⟩, (zs.drop (pos + head)).take n)) := Lib.hid (by unfold rtake; rw [if_pos rfl, if_neg (by rw [HL.out]; exact hsh)])
      unfold maxLen at hdat
      by_cases hkc : cap = pos + head
      · go_enter Try.func91, Try.ntmps91
        go_wp2
        go_quiet (fail)
        go_wp2
        go_ret
        rw [HR.out]
        exact take_end H.out (by rw [HL.out]; omega) (by omega) (fun _ => ⟨by omega, rfl⟩) (.inl (by omega)) _ (by omega) _
      · cases a with
        | none => exact absurd (H.out.nil rfl).2 (by have := H.out.nil rfl; omega)
        | some x =>
          go_enter Try.func91, Try.ntmps91
          go_wp2
          go_quiet (fail)
          go_wp2
          go_ret
          rw [HR.out]
          refine take_end H.out (by rw [HL.out]; omega) (by omega) (fun h => by cases h) ?_ _ (by omega) _
          by_cases hn0 : n = 0
          · exact .inl hn0
          · have hx : some x = some ⟨b, off, none⟩ := H.out.data.addr.resolve_left (by rw [HL.out]; omega)
            cases hx
            exact .inr (by rw [addr_add])
  · have he1 : ((er : Int) == 0) = false := by simp; omega
    have HR : Hid (rtake zs head n ⟨pos, er, fa⟩ = (⟨pos, er, fa⟩, [])) := Lib.hid (by unfold rtake; rw [if_neg he])
    clear h
    go_enter Try.func91, Try.ntmps91
    go_wp2
    go_ret
    rw [HR.out]
    exact take_nothing H0.out (grown_refl _ _)
end Go.Proofs.Ytnkhpmpoemodiaa
