/- Contract: what each part weighs. -/
import Derived.Test.YtjpgkocffceeoaaZa
import Derived.Test.YtjpgkocffceeoaaBo
set_option linter.unusedVariables false
set_option linter.unusedSectionVars false
namespace Go.Proofs.Ytjpgkocffceeoaa
open Go.RowKit Rk

/-- What each part weighs, of the first j things. -/
def wtsT (ws ms : List Int) : Nat → Nat → Int
  | 0 => fun _ => 0
  | j + 1 => upd (wtsT ws ms j) (ms.getD j 0).toNat (wtsT ws ms j (ms.getD j 0).toNat + ws.getD j 0)
theorem wtsT_bd {ws : List Int} (ms : List Int) (hw : ∀ x ∈ ws, 1 ≤ x ∧ x ≤ 1099511627776) : ∀ j, j ≤ ws.length → ∀ p, 0 ≤ wtsT ws ms j p ∧ wtsT ws ms j p ≤ 1099511627776 * (j : Int)
  | 0, _, p => by simp [wtsT]
  | j + 1, hj, p => by
    have h1 := wtsT_bd ms hw j (by omega) p
    have h2 := wtsT_bd ms hw j (by omega) (ms.getD j 0).toNat
    have h3 := getD_wts hw (k := j) (by omega)
    simp only [wtsT, upd]
    split <;> omega
/-- What lies while the parts are weighed. -/
structure WtR (w : World) (wb k : Nat) (f : Nat → Int) (W : World) : Prop where
  row : W.heap[wb]? = some (.cells (rowC k f) 2 (0, 0))
  new : w.heap.size ≤ wb
  below : Below w.heap.size w W
theorem WtR.on {w W W' : World} {wb k : Nat} {f : Nat → Int} (h : WtR w wb k f W) (hb : Below W.heap.size W W') : WtR w wb k f W' := ⟨heap_below h.row hb (heap_lt h.row), h.new, h.below.trans (hb.mono h.below.size)⟩
theorem WtR.set {w W : World} {wb k p : Nat} {f : Nat → Int} (h : WtR w wb k f W) (hp : p < k) (v : Int) : WtR w wb k (upd f p v) (W.setCell ⟨wb, p, none⟩ (.int .i64 v)) :=
  ⟨by have := heap_set h.row p (.int .i64 v); rw [rowC_set f hp v] at this; exact this, h.new, h.below.setCell (p := ⟨wb, p, none⟩) h.new _⟩
/-- What the call leaves. -/
def WtsPost (ws ms : List Int) (k : Int) (w : World) (e : Ending) (w' : World) : Prop :=
  (rightP ws.length ms k = false ∧ e = .returned (.slice none 0 0) ∧ Below w.heap.size w w') ∨
  (rightP ws.length ms k = true ∧ ∃ wb, e = .returned (.slice (some ⟨wb, 0, none⟩) k.toNat k.toNat) ∧ WtR w wb k.toNat (wtsT ws ms ws.length) w')
set_option maxRecDepth 100000 in
set_option maxHeartbeats 2000000 in
theorem weights_any {w : World} {g nb : Nat} {ws : List Int} {F : Nat → Nat → Int} (h : IsG w g nb ws F) {a : Option Addr} {b off len cap : Nat} {ms : List Int} (hm : IntsAt .i64 w.heap.size w a b off len ms) (k : Int) :
    Calls Try.prog 19 #[.pointer (some ⟨g, 0, none⟩), .slice a len cap, .int .i64 k] w (WtsPost ws ms k w) := by
  have HC := Lib.hid (cright_any (cap := cap) h hm (Nat.le_refl _) k)
  cases hr : rightP ws.length ms k with
  | false =>
    rw [hr] at HC
    have HR := Lib.hid hr
    clear h hm hr
    go_enter Try.func19, Try.ntmps19
    go_wp2_with fail
    refine HC.out.mono ?_
    rintro e w1 ⟨rfl, hb⟩
    have HB := Lib.hid hb
    clear hb
    go_wp2
    go_ret
    exact .inl ⟨HR.out, rfl, HB.out⟩
  | true =>
    rw [hr] at HC
    obtain ⟨h1, ⟨h2, h3⟩, h4⟩ := rightP_t hr
    obtain ⟨kk, rfl⟩ : ∃ kk : Nat, k = (kk : Int) := ⟨k.toNat, by omega⟩
    have hlen : len = ws.length := by rw [← hm.length, h1]
    have hsm := h.small
    subst hlen
    have HH := Lib.hid h
    have HM := Lib.hid hm
    have HR := Lib.hid hr
    have HP := Lib.hid h4
    have HL := Lib.hid h1
    have hbd := Lib.hid (fun j hj => wtsT_bd ms h.wts j hj)
    have hkk : kk ≤ 4096 := by omega
    have hk1 : 1 ≤ kk := by omega
    clear h hm hr h1 h2 h3 h4
    go_enter Try.func19, Try.ntmps19
    go_wp2_with fail
    refine HC.out.mono ?_
    rintro e w1 ⟨rfl, hb⟩
    have HB := Lib.hid hb
    have z1 := hb.size
    have hmk := madeRow w1 kk hkk
    have hW0 : WtR w w1.heap.size kk (wtsT ws ms 0) (w1.alloc (.cells (rowC kk (noTab 0)) 2)) := ⟨World.alloc_heap_new w1 _, z1, hb.alloc z1 _⟩
    have HW0 := Lib.hid hW0
    clear hb hW0
    generalize hn : ws.length = n at *
    go_wp2
    go_loopw [19] (fun i wr => ∃ j : Nat, i = .int .i64 j ∧ j ≤ n ∧ Hid (WtR w w1.heap.size kk (wtsT ws ms j) wr)) (fun i _ => n - (intOf i).toNat)
    case atStart => exact ⟨0, rfl, Nat.zero_le _, HW0⟩
    case round =>
      clear HW0 hmk
      obtain ⟨j, rfl, hj, HW⟩ := hrel
      by_cases hlt : j < n
      · have hI := HM.out.kept HW.out.below (Nat.le_refl _)
        have hcell := hI.cell j hlt
        obtain rfl : a = some ⟨b, off, none⟩ := HM.out.addr.resolve_left (by omega)
        have hpj := HP.out (ms.getD j 0) (by rw [List.getD_eq_getElem?_getD, List.getElem?_eq_getElem (by rw [HL.out]; exact hlt)]; exact List.getElem_mem _)
        obtain ⟨p, hp⟩ : ∃ p : Nat, ms.getD j 0 = (p : Int) := ⟨(ms.getD j 0).toNat, by omega⟩
        rw [hp] at hcell hpj
        have hpk : p < kk := by omega
        have hS : wtsT ws ms (j + 1) = upd (wtsT ws ms j) p (wtsT ws ms j p + ws.getD j 0) := by simp only [wtsT, hp, Int.toNat_natCast]
        have hb1 := hbd.out j (by omega) p
        have hx := getD_wts HH.out.wts (k := j) (by omega)
        have hwt : wtOf ws (j : Int) = ws.getD j 0 := by unfold wtOf; rw [if_pos ⟨by omega, by rw [hn]; omega⟩, Int.toNat_natCast]
        have HG : Hid (∀ W, Below wr.heap.size wr W → Calls Try.prog 43 #[.pointer (some ⟨g, 0, none⟩), .int .i64 (j : Int)] W fun e w' => e = .returned (.int .i64 (ws.getD j 0)) ∧ W = w') := Lib.hid (fun W hW => weight_lit (HH.out.below (HW.out.below.trans (hW.mono HW.out.below.size))) j hwt)
        have HS := Lib.hid hS
        generalize wtsT ws ms j = f at *
        generalize ws.getD j 0 = x at *
        have HWs : Hid (∀ W, Below wr.heap.size wr W → WtR w w1.heap.size kk f W) := Lib.hid (fun W hW => HW.out.on hW)
        have s0 : ∀ W, Below wr.heap.size wr W → W.cell? ⟨w1.heap.size, p, none⟩ = some (.int .i64 (f p)) := fun W hW => heap_cell (HW.out.on hW).row (rowC_at f hpk)
        have s1 : ∀ W, Below wr.heap.size wr W → W.frozen? ⟨w1.heap.size, p, none⟩ = false := fun W hW => heap_frozen (HW.out.on hW).row p
        have hw : IntKind.i64.wrap (f p + x) = f p + x := IntWalk.i64_in _ (by omega)
        have hpi : (p : Int) < (kk : Int) := by omega
        clear hI hp hS hwt
        go_wp2_with fail
        have s2 := s0 _ (Below.refl _ _)
        have s3 := s1 _ (Below.refl _ _)
        have HG1 := Lib.hid (HG.out _ (Below.refl _ _))
        have HG2 := Lib.hid (HG.out _ (Below.refl _ _).drew)
        have HS2 : Hid (WtR w w1.heap.size kk (wtsT ws ms (j + 1)) ((wr.setCell ⟨w1.heap.size, p, none⟩ (.int .i64 (f p + x))).drew)) := Lib.hid (by rw [HS.out]; exact (HW.out.set hpk _).on (Below.refl _ _).drew)
        clear s0 s1 HG HWs
        go_region_with (first
          | (go_at_call 43; refine HG2.out.mono ?_; rintro e w' ⟨rfl, rfl⟩)
          | (go_at_call 43; refine HG1.out.mono ?_; rintro e w' ⟨rfl, rfl⟩))
        all_goals
          go_wp2
          go_roundw
          case rel => exact ⟨j + 1, by go_num, by omega, HS2⟩
          case measure => simp [intOf]; omega
      · obtain rfl : j = n := by omega
        go_wp2
        go_ret
        exact .inr ⟨by rw [hn]; exact HR.out, w1.heap.size, rfl, by rw [Int.toNat_natCast, hn]; exact HW.out⟩
end Go.Proofs.Ytjpgkocffceeoaa
