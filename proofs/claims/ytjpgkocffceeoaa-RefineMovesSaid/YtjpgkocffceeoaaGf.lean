/- Contracts: what goes down a tree: find, rank, nth. -/
import Derived.Test.YtjpgkocffceeoaaGe
set_option linter.unusedVariables false
set_option linter.unusedSectionVars false
namespace Go.Proofs.Ytjpgkocffceeoaa
open Go.RowKit Rk

theorem cmp_lt {a b : Int} (h : ltI a b = true) (w : World) : Calls Try.prog 88 #[.int .i64 a, .int .i64 b] w fun e w' => e = .returned (.int .i64 (-1)) ∧ w = w' :=
  (cmp_any a b w).mono fun e w' h' => ⟨by rw [h'.1, cmpI, if_pos h], h'.2⟩
theorem cmp_gt {a b : Int} (h : ltI b a = true) (w : World) : Calls Try.prog 88 #[.int .i64 a, .int .i64 b] w fun e w' => e = .returned (.int .i64 1) ∧ w = w' :=
  (cmp_any a b w).mono fun e w' h' => ⟨by rw [h'.1, cmpI, if_neg (by rw [linI.asymm h]; simp), if_pos h], h'.2⟩
theorem cmp_eq (a : Int) (w : World) : Calls Try.prog 88 #[.int .i64 a, .int .i64 a] w fun e w' => e = .returned (.int .i64 0) ∧ w = w' :=
  (cmp_any a a w).mono fun e w' h' => ⟨by rw [h'.1, cmpI, if_neg (by rw [linI.irr]; simp), if_neg (by rw [linI.irr]; simp)], h'.2⟩
theorem side_lt (w : World) : Calls Try.prog 89 #[.int .i64 (-1)] w fun e w' => e = .returned (.int .i64 0) ∧ w = w' := side_any (-1) w
theorem side_gt (w : World) : Calls Try.prog 89 #[.int .i64 1] w fun e w' => e = .returned (.int .i64 1) ∧ w = w' := side_any 1 w

theorem three (a b : Int) : ltI a b = true ∨ ltI b a = true ∨ a = b := by
  cases h : ltI a b with
  | true => exact .inl rfl
  | false =>
    cases h' : ltI b a with
    | true => exact .inr (.inl rfl)
    | false => exact .inr (.inr (linI.tri a b h h'))

/-- What find hands back. -/
def FindPost (k : Int) (L : List (Int × Int)) (w : World) (e : Ending) (w' : World) : Prop :=
  ∃ p, e = .returned (.pointer p) ∧ Turned (fun _ => False) w w' ∧ ((p = none ∧ get ltI k L = none) ∨ ∃ b v s pl pr, p = some ⟨b, 0, none⟩ ∧ get ltI k L = some v ∧ Raw w' b k v s pl pr)

set_option maxRecDepth 100000 in
set_option maxHeartbeats 2000000 in
theorem find_any {S : Nat → Prop} {w : World} {p : Option Addr} {t : T Int Int} (k : Int) (h : IsT S w p t) (hs : Srt ltI t.list) :
    Calls Try.prog 85 #[.pointer p, .int .i64 k] w (FindPost k t.list w) := by
  have H := Lib.hid h
  have HS := Lib.hid hs
  clear h hs
  go_enter Try.func85, Try.ntmps85
  go_wp2
  go_loopg [0] t.count (fun g n wr => ∃ (q : Option Addr) (u : T Int Int), n = .pointer q ∧ g = u.count ∧ Hid (IsT S wr q u) ∧ Hid (Srt ltI u.list) ∧ Hid (get ltI k u.list = get ltI k t.list) ∧ Hid (Turned (fun _ => False) w wr))
  case atStart => exact ⟨p, t, rfl, rfl, H, HS, Lib.hid rfl, Lib.hid (Turned.refl _ _)⟩
  case round =>
    obtain ⟨q, u, rfl, hg, hT, hSr, hG, hW⟩ := hrel
    have HGK := Lib.hid hg
    clear hg
    cases u with
    | nil =>
      obtain rfl : q = none := hT.out
      go_wp2
      go_ret
      exact ⟨none, rfl, hW.out, .inl ⟨rfl, by rw [← hG.out]; rfl⟩⟩
    | node l k' v' r =>
      obtain ⟨b, pl, pr, rfl, hb, hr, hl, hrr⟩ := hT.out
      obtain ⟨s', hs'⟩ : ∃ s' : Int, ((l.count + 1 + r.count : Nat) : Int) = s' := ⟨_, rfl⟩
      rw [hs'] at hr
      obtain ⟨c0, c1, c2, c3, c4⟩ := hr.cells
      have HR := Lib.hid hr
      have HL := Lib.hid hl
      have HRR := Lib.hid hrr
      have hsp := hSr.out
      simp only [T.list] at hsp
      have HSP := Lib.hid hsp
      clear hr hl hrr hsp hs' hb
      rcases three k k' with hlt | hgt | rfl
      · have HLT := Lib.hid hlt
        clear hlt
        have hgl := get_lt linI _ _ _ k HSP.out HLT.out
        have HGL := Lib.hid hgl
        clear hgl
        go_wp2_with (go_at_call 88; refine (cmp_lt HLT.out _).mono ?_; rintro e w' ⟨rfl, rfl⟩)
        go_quiet ((go_at_call 89; exact Calls.quiet_of_same ((side_lt _).mono (fun e w' h => ⟨h.1, h.2.symm⟩))))
        have t1 : Turned (fun _ => False) wr (wr.drewN nq) := Turned.drewN _ _ _
        revert t1
        generalize wr.drewN nq = w1
        intro t1
        have T1 := Lib.hid t1
        clear t1
        go_wp2
        go_roundg l.count
        case measure => rw [HGK.out]; simp only [T.count]; omega
        case rel => exact ⟨pl, l, rfl, rfl, Lib.hid (HL.out.turned T1.out (fun _ _ _ h => h)), Lib.hid HSP.out.split.1, Lib.hid (by rw [← hG.out, T.list]; exact HGL.out.symm), Lib.hid (hW.out.trans T1.out)⟩
      · have HLT := Lib.hid hgt
        clear hgt
        have hgl := get_gt linI _ _ _ k HSP.out HLT.out
        have HGL := Lib.hid hgl
        clear hgl
        go_wp2_with (go_at_call 88; refine (cmp_gt HLT.out _).mono ?_; rintro e w' ⟨rfl, rfl⟩)
        go_quiet ((go_at_call 89; exact Calls.quiet_of_same ((side_gt _).mono (fun e w' h => ⟨h.1, h.2.symm⟩))))
        have t1 : Turned (fun _ => False) wr (wr.drewN nq) := Turned.drewN _ _ _
        revert t1
        generalize wr.drewN nq = w1
        intro t1
        have T1 := Lib.hid t1
        clear t1
        go_wp2
        go_roundg r.count
        case measure => rw [HGK.out]; simp only [T.count]; omega
        case rel => exact ⟨pr, r, rfl, rfl, Lib.hid (HRR.out.turned T1.out (fun _ _ _ h => h)), Lib.hid HSP.out.split.2.1, Lib.hid (by rw [← hG.out, T.list]; exact HGL.out.symm), Lib.hid (hW.out.trans T1.out)⟩
      · have hgl := get_eq linI _ _ _ HSP.out
        have HGL := Lib.hid hgl
        clear hgl
        go_wp2_with (go_at_call 88; refine (cmp_eq k _).mono ?_; rintro e w' ⟨rfl, rfl⟩)
        go_ret
        exact ⟨_, rfl, hW.out, .inr ⟨b, v', s', pl, pr, rfl, by rw [← hG.out, T.list]; exact HGL.out, HR.out⟩⟩

set_option maxRecDepth 100000 in
set_option maxHeartbeats 2000000 in
theorem rank_any {S : Nat → Prop} {w : World} {p : Option Addr} {t : T Int Int} (k : Int) (h : IsT S w p t) (hs : Srt ltI t.list) (hc : t.count ≤ 900000) :
    Calls Try.prog 93 #[.pointer p, .int .i64 k] w fun e w' => e = .returned (.int .i64 (rk ltI k t.list : Int)) ∧ w = w' := by
  have H := Lib.hid h
  have HS := Lib.hid hs
  clear h hs
  go_enter Try.func93, Try.ntmps93
  go_wp2
  go_loopg [0, 5] t.count (fun g n a wr => ∃ (q : Option Addr) (u : T Int Int) (m : Nat), n = .pointer q ∧ a = .int .i64 m ∧ g = u.count ∧ m + u.count ≤ 900000 ∧ Hid (w = wr) ∧ Hid (IsT S w q u) ∧ Hid (Srt ltI u.list) ∧ Hid (m + rk ltI k u.list = rk ltI k t.list))
  case atStart => exact ⟨p, t, 0, rfl, rfl, rfl, by omega, Lib.hid rfl, H, HS, Lib.hid (by omega)⟩
  case round =>
    obtain ⟨q, u, m, rfl, rfl, hg, hm, hW, hT, hSr, hG⟩ := hrel
    obtain rfl := hW.out
    have HGK := Lib.hid hg
    clear hg hW
    cases u with
    | nil =>
      obtain rfl : q = none := hT.out
      go_wp2
      go_ret
      exact ⟨by rw [← hG.out]; rfl, rfl⟩
    | node l k' v' r =>
      obtain ⟨b, pl, pr, rfl, hb, hr, hl, hrr⟩ := hT.out
      obtain ⟨s', hs'⟩ : ∃ s' : Int, ((l.count + 1 + r.count : Nat) : Int) = s' := ⟨_, rfl⟩
      rw [hs'] at hr
      obtain ⟨c0, c1, c2, c3, c4⟩ := hr.cells
      have hcn : m + (l.count + 1 + r.count) ≤ 900000 := hm
      have HL := Lib.hid hl
      have HRR := Lib.hid hrr
      have hsp := hSr.out
      simp only [T.list] at hsp
      have HSP := Lib.hid hsp
      clear hr hl hrr hsp hs' hb hm
      rcases three k k' with hlt | hgt | rfl
      · have HLT := Lib.hid hlt
        clear hlt
        have HGL := Lib.hid (rk_ge linI _ _ _ k HSP.out (linI.asymm HLT.out))
        go_wp2_with (first | (go_at_call 88; refine (cmp_lt HLT.out _).mono ?_; rintro e w' ⟨rfl, rfl⟩) | (go_at_call 89; refine (side_lt _).mono ?_; rintro e w' ⟨rfl, rfl⟩))
        go_roundg l.count
        case measure => rw [HGK.out]; simp only [T.count]; omega
        case rel => exact ⟨pl, l, m, rfl, rfl, rfl, by omega, Lib.hid rfl, HL, Lib.hid HSP.out.split.1, Lib.hid (by rw [← hG.out, T.list]; rw [HGL.out])⟩
      · have HLT := Lib.hid hgt
        clear hgt
        have HGL := Lib.hid (rk_gt linI _ _ _ k HSP.out HLT.out)
        have HCn := Lib.hid (count_any HL.out)
        obtain ⟨n, hn⟩ : ∃ n : Nat, l.count = n := ⟨_, rfl⟩
        have hln : l.list.length = n := by rw [T.list_length]; exact hn
        rw [hln] at HGL
        rw [hn] at HCn hcn
        clear hn hln
        go_wp2_with (first | (go_at_call 88; refine (cmp_gt HLT.out _).mono ?_; rintro e w' ⟨rfl, rfl⟩) | (go_at_call 89; refine (side_gt _).mono ?_; rintro e w' ⟨rfl, rfl⟩) | (go_at_call 87; refine HCn.out.mono ?_; rintro e w' ⟨rfl, rfl⟩))
        go_roundg r.count
        case measure => rw [HGK.out]; simp only [T.count]; omega
        case rel => exact ⟨pr, r, m + (n + 1), rfl, by go_num, rfl, by omega, Lib.hid rfl, HRR, Lib.hid HSP.out.split.2.1, Lib.hid (by rw [← hG.out, T.list]; rw [HGL.out]; omega)⟩
      · have HGL := Lib.hid (rk_ge linI _ _ _ k HSP.out (linI.irr k))
        go_wp2_with (first | (go_at_call 88; refine (cmp_eq k _).mono ?_; rintro e w' ⟨rfl, rfl⟩) | (go_at_call 89; refine (side_any 0 _).mono ?_; rintro e w' ⟨rfl, rfl⟩; rw [show sideI 0 = 0 from rfl]))
        go_roundg l.count
        case measure => rw [HGK.out]; simp only [T.count]; omega
        case rel => exact ⟨pl, l, m, rfl, rfl, rfl, by omega, Lib.hid rfl, HL, Lib.hid HSP.out.split.1, Lib.hid (by rw [← hG.out, T.list]; rw [HGL.out])⟩

end Go.Proofs.Ytjpgkocffceeoaa
