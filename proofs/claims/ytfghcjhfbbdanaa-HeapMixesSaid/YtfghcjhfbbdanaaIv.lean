/- Contract: something is put in. -/
import Derived.Test.YtfghcjhfbbdanaaIu
import Derived.Test.YtfghcjhfbbdanaaAw
import Derived.Deep.DeepCutAuto
import Derived.Deep.LoopGhost
set_option linter.unusedVariables false
namespace Go.Proofs.Ytfghcjhfbbdanaa.Ii
open Go.RowKit

/-- The world on the way up. -/
structure PW (w : World) (B : Nat) (e : Ent) (W : World) : Prop where
  below : Below w.heap.size w W
  box : W.heap[B]? = some (.cells #[.int .i64 e.1, .int .i64 e.2] 65 (0, 0))
  new : w.heap.size ≤ B
theorem PW.next {w W W' : World} {B : Nat} {e : Ent} (h : PW w B e W) (hb : Below W.heap.size W W') : PW w B e W' :=
  ⟨h.below.trans (hb.mono h.below.size), heap_below h.box hb (heap_lt h.box), h.new⟩

theorem cell_free {K lo hb lb : Nat} {w : World} {v : Value} {L : List Ent} {puts : Int} (h : HMem K lo hb lb w v L puts) {i : Nat} (hi : i < L.length) :
    w.cell? ⟨lb, i * 2, none⟩ = some (.int .i64 (Hm.g L i).1) ∧ w.cell? ⟨lb, i * 2 + 1, none⟩ = some (.int .i64 (Hm.g L i).2) ∧ w.frozen? ⟨lb, i * 2, none⟩ = false ∧ w.frozen? ⟨lb, i * 2 + 1, none⟩ = false := by
  obtain ⟨h1, h2⟩ := h.cells hi
  rcases h.shape with ⟨_, rfl⟩ | ⟨cap, cur, rfl, _, hg, _⟩
  · simp at hi
  · exact ⟨h1, h2, heap_frozen hg _, heap_frozen hg _⟩
/-- What stands behind the append. -/
structure Pushed (K lo hb lb : Nat) (w : World) (e : Ent) (L : List Ent) (puts : Int) (g cap : Nat) (W : World) : Prop where
  mem : HMem K lo hb g W (.slice (some ⟨g, 0, none⟩) (L.length + 1) cap) (L ++ [e]) (puts + 1)
  frame : Turned (fun k => k = hb ∨ k = lb) w W
  box : W.heap[w.heap.size]? = some (.cells #[.int .i64 e.1, .int .i64 e.2] 65 (0, 0))
  row : g = lb ∨ w.heap.size ≤ g
  apart : g ≠ w.heap.size
theorem pushed_of {K lo hb lb : Nat} {w W0 W : World} {e : Ent} {L : List Ent} {puts : Int} {g cap : Nat} {o : Obj} (hf : Turned (fun k => k = hb ∨ k = lb) w W0) (hbx : W0.heap[w.heap.size]? = some (.cells #[.int .i64 e.1, .int .i64 e.2] 65 (0, 0))) (hlb : lb < w.heap.size) (hlt : hb < w.heap.size)
    (hm : HMem K lo hb g W (.slice (some ⟨g, 0, none⟩) (L.length + 1) cap) (L ++ [e]) (puts + 1)) (hl : g = lb ∨ (W0.drew.alloc o).heap.size ≤ g) (ht : Turned (fun k => k = hb ∨ k = lb) (W0.drew.alloc o) W) : Pushed K lo hb lb w e L puts g cap W := by
  have h1 := heap_lt hbx
  have h2 := hf.size
  refine ⟨hm, (hf.trans (Turned.of_below (R := fun _ => False) (((Below.refl W0.heap.size W0).drew).alloc (Nat.le_refl _) o)) (fun _ _ e => e) (fun _ _ e => e.elim)).trans ht (fun _ _ e => e) (fun _ _ e => e), ht.old (heap_alloc (w := W0.drew) hbx _) (by omega), ?_, ?_⟩
  · rcases hl with hl | hl
    · exact .inl hl
    · have h3 : W0.heap.size + 1 ≤ g := by simpa using hl
      exact .inr (by omega)
  · intro e
    rcases hl with hl | hl
    · omega
    · have h3 : W0.heap.size + 1 ≤ g := by simpa using hl
      omega
theorem Try.infoEntI : (Try.prog.info? 65).map (fun i => (i.zero, i.size, i.bytes)) = some (some (.agg #[.int .i64 0, .int .i64 0]), 2, 16) := by kernel_rfl
set_option maxHeartbeats 4000000 in
theorem push_any {K : Nat} {kf : Int → Int} (HK : IsOrd K kf) {lo hb lb : Nat} {w : World} {row : List Int} {puts : Int} (h : HIs K kf lo hb lb w row puts) (x1 : Int) (hs : row.length ≤ 100000) (hp0 : 0 ≤ puts) (hp1 : puts ≤ 1000000) (hlo : lo ≤ w.heap.size) :
    Calls Try.prog 23 #[.pointer (some ⟨hb, 0, none⟩), .int .i64 x1] w fun e w' => e = .returned (.tuple #[]) ∧ ∃ lb', HIs K kf lo hb lb' w' (row ++ [x1]) (puts + 1) ∧ (lb' = lb ∨ w.heap.size ≤ lb') ∧ Turned (fun k => k = hb ∨ k = lb) w w' := by
  obtain ⟨v, L, hm, hh⟩ := h
  have hl := hh.length
  have hlt := heap_lt hm.box
  have HA := Lib.hid (fun (a b m p : Int) (W : World) (hB : Below w.heap.size w W) => ahead_any HK a b m p W hb v puts (heap_below hm.box hB hlt))
  have HC := Lib.hid (fun (W : World) (hB : Below w.heap.size w W) => (hm.below hB))
  have HH := Lib.hid (And.intro hh hl)
  have HLB := Lib.hid hm.lt
  have hsh : ∃ ao cap, v = .slice ao L.length cap ∧ (L.length = 0 ∨ ao = some ⟨lb, 0, none⟩) ∧ L.length ≤ cap := by
    rcases hm.shape with ⟨rfl, rfl⟩ | ⟨cap, cur, rfl, _, _, hc, _⟩
    · exact ⟨none, 0, rfl, .inl rfl, Nat.le_refl _⟩
    · exact ⟨_, cap, rfl, .inr rfl, hc⟩
  obtain ⟨ao, cap, rfl, hao, hcap⟩ := hsh
  have hLs : L.length ≤ 100000 := by omega
  obtain ⟨c0, c1, c2, f0, f1, f2⟩ := three_cells hm.box
  clear hm hh hl
  go_enter Try.func23, Try.ntmps23
  go_wp2
  have hP0 : PW w (w.heap.size) (x1, puts) (w.alloc (Obj.cells #[Value.int IntKind.i64 x1, Value.int IntKind.i64 puts] 65)) :=
    ⟨(Below.refl _ _).alloc (Nat.le_refl _) _, heap_new _ rfl, Nat.le_refl _⟩
  have HP0 := Lib.hid hP0
  clear hP0
  go_loopg [5] L.length (fun k i wr => i = .int .i64 k ∧ k ≤ L.length ∧ Hid (Hm.Up kf L (x1, puts) L.length k) ∧ Hid (PW w (w.heap.size) (x1, puts) wr))
  case atStart => exact ⟨rfl, Nat.le_refl _, Lib.hid (.refl _), HP0⟩
  case round =>
    obtain ⟨rfl, hk, hU, hW⟩ := hrel
    go_upto_region 2 with fail
    go_cut [5, 32] from 18 to 34 (fun s5 s32 wx => ∃ b : Bool, s5 = .int .i64 gk ∧ s32 = .bool b ∧ Hid (b = true → 0 < gk ∧ Hm.ahead kf (x1, puts) (Hm.g L (Hm.over gk)) = true) ∧ Hid (b = false → gk = 0 ∨ Hm.ahead kf (x1, puts) (Hm.g L (Hm.over gk)) = false) ∧ Hid (PW w (w.heap.size) (x1, puts) wx))
    case first =>
      by_cases hk0 : gk = 0
      · have hd : decide ((0 : Int) < (gk : Int)) = false := by simp; omega
        go_quiet (fail)
        go_wp2_with fail
        go_meet
        exact ⟨false, rfl, rfl, Lib.hid (fun h => by cases h), Lib.hid (fun _ => .inl hk0), Lib.hid (hW.out.next (below_drewN _ _))⟩
      · have hd : decide ((0 : Int) < (gk : Int)) = true := by simp; omega
        have hdn : decide (0 < gk) = true := by simp; omega
        have ho := Hm.over_lt (k := gk) (by omega)
        have haos : ao = some ⟨lb, 0, none⟩ := hao.resolve_left (by omega)
        subst haos
        have HSa : Hid (∀ W, PW w (w.heap.size) (x1, puts) W → (W.cell? ⟨hb, 1, none⟩ = some (.slice (some ⟨lb, 0, none⟩) L.length cap) ∧ W.cell? ⟨lb, Hm.over gk * 2, none⟩ = some (.int .i64 (Hm.g L (Hm.over gk)).1) ∧ W.cell? ⟨lb, Hm.over gk * 2 + 1, none⟩ = some (.int .i64 (Hm.g L (Hm.over gk)).2) ∧ W.cell? ⟨w.heap.size, 0, none⟩ = some (.int .i64 x1) ∧ W.cell? ⟨w.heap.size, 1, none⟩ = some (.int .i64 puts) ∧ Hid (PW w (w.heap.size) (x1, puts) W))) := fun W hW => by
          have haM := HC.out _ hW.below
          obtain ⟨a0, a1⟩ := haM.cells (i := Hm.over gk) (by omega)
          have cb := (three_cells haM.box).2.1
          obtain ⟨y0, y1, _⟩ := pair_cells hW.box
          exact ⟨cb, a0, a1, y0, y1, Lib.hid hW⟩
        have hi0 : (0 : Int) ≤ (Hm.over gk : Nat) := by omega
        have hi1 : ((Hm.over gk : Nat) : Int) < (L.length : Int) := by omega
        obtain ⟨cb, a0, a1, y0, y1, _⟩ := HSa.out _ hW.out
        go_region_held3 (fun w' => w'.cell? ⟨hb, 1, none⟩ = some (.slice (some ⟨lb, 0, none⟩) L.length cap) ∧ w'.cell? ⟨lb, Hm.over gk * 2, none⟩ = some (.int .i64 (Hm.g L (Hm.over gk)).1) ∧ w'.cell? ⟨lb, Hm.over gk * 2 + 1, none⟩ = some (.int .i64 (Hm.g L (Hm.over gk)).2) ∧ w'.cell? ⟨w.heap.size, 0, none⟩ = some (.int .i64 x1) ∧ w'.cell? ⟨w.heap.size, 1, none⟩ = some (.int .i64 puts) ∧ Hid (PW w (w.heap.size) (x1, puts) w')) (first | exact ⟨cb, a0, a1, y0, y1, hW⟩ | exact ⟨cb, a0, a1, y0, y1, Lib.hid (hW.out.next (below_drew _))⟩ | exact HSa.out _ ((hW.out.next (below_drew _)).next hB1.out)) (first | (go_at_call 20; refine (over_any gk _ (by omega) (by omega)).mono ?_; rintro e5 w5 ⟨rfl, rfl⟩) | (go_at_call 27; refine (HA.out _ _ _ _ _ (hW.out.next (below_drew _)).below).mono ?_; rintro e5 w5 ⟨rfl, hB⟩; have hB1 := Lib.hid hB; clear hB))
        have HW5 := Lib.hid ((hW.out.next (below_drew _)).next hB1.out)
        generalize hb7 : Hm.ahead kf (x1, puts) ((Hm.g L (Hm.over gk)).1, (Hm.g L (Hm.over gk)).2) = b7
        have HB7 := Lib.hid hb7
        clear hb7 cb a0 a1 y0 y1
        go_wp2_with fail
        go_meet
        exact ⟨b7, rfl, rfl, Lib.hid (fun h => ⟨by omega, by subst h; exact HB7.out⟩), Lib.hid (fun h => .inr (by subst h; exact HB7.out)), HW5⟩
    case rest =>
      obtain ⟨b, rfl, rfl, hb1, hb0, hW1⟩ := hcut
      cases b
      case true =>
        have hg0 : 0 < gk := (hb1.out rfl).1
        have HB1 := Lib.hid (hb1.out rfl).2
        clear hb1 hb0
        go_wp2_with (go_at_call 20; refine (over_any gk _ (by omega) (by omega)).mono ?_; rintro e5 w5 ⟨rfl, rfl⟩)
        go_roundg (Hm.over gk)
        case measure => exact Hm.over_lt hg0
        case rel => exact ⟨rfl, by have := Hm.over_lt hg0; omega, Lib.hid (hU.out.snoc hg0 HB1.out), hW1⟩
      case false =>
        have HB0 := Lib.hid (hb0.out (by first | rfl | trivial))
        clear hb1 hb0
        have hm1 := HC.out _ hW1.out.below
        obtain ⟨d0, d1, d2, g0, g1, g2⟩ := three_cells hm1.box
        have HM1 := Lib.hid hm1
        clear hm1
        go_wp2
        have hm2 := (HM1.out.counted (puts + 1)).1
        have ht2 := (HM1.out.counted (puts + 1)).2
        obtain ⟨W0, hW0⟩ : ∃ W, wc.setCell ⟨hb, 2, none⟩ (.int .i64 (puts + 1)) = W := ⟨_, rfl⟩
        rw [hW0] at hm2 ht2 ⊢
        have hbox2 := ht2.old hW1.out.box (by have := hW1.out.new; omega)
        have hF2 : Turned (fun k => k = hb ∨ k = lb) w W0 := (Turned.of_below (R := fun _ => False) hW1.out.below).trans ht2 (fun _ _ e => e.elim) (fun _ _ e => .inl e)
        clear hW0 ht2 d0 d1 d2 g0 g1 g2
        obtain ⟨d0, d1, d2, g0, g1, g2⟩ := three_cells hm2.box
        obtain ⟨y0, y1, _⟩ := pair_cells hbox2
        have HM2 := Lib.hid hm2
        have HB2 := Lib.hid hbox2
        have HF2 := Lib.hid hF2
        clear hm2 hbox2 hF2
        have HOWN : Hid ((W0.drew.alloc (Obj.cells #[Value.int IntKind.i64 x1, Value.int IntKind.i64 puts] 65)).ownsRow lo 65 2 (.slice ao L.length cap) L.length (encs L)) := (HM2.out.own.drew).alloc _
        have HNEW : Hid (∀ j u, (encs [(x1, puts)])[j]? = some u → (W0.drew.alloc (Obj.cells #[Value.int IntKind.i64 x1, Value.int IntKind.i64 puts] 65)).cell? ((⟨W0.heap.size, 0, none⟩ : Addr).add j) = some u) := by
          intro j u hj
          match j, hj with
          | 0, hj => simp [encs] at hj; subst hj; simp [Addr.add, go_sem]
          | 1, hj => simp [encs] at hj; subst hj; simp [Addr.add, go_sem]
          | j + 2, hj => simp [encs] at hj
        have HLO : Hid (lo ≤ W0.heap.size) := Nat.le_trans hlo HF2.out.size
        have HMB : Hid (HMem K lo hb lb (W0.drew.alloc (Obj.cells #[Value.int IntKind.i64 x1, Value.int IntKind.i64 puts] 65)) (.slice ao L.length cap) L (puts + 1)) := HM2.out.below (((Below.refl _ _).drew).alloc (by simp) _)
        have e1 : (W0.alloc (Obj.cells #[Value.int IntKind.i64 x1, Value.int IntKind.i64 puts] 65)).cell? ⟨hb, 1, none⟩ = some (.slice ao L.length cap) := (((Below.refl W0.heap.size W0).alloc (Nat.le_refl _) _).cell (p := ⟨hb, 1, none⟩) (heap_lt HM2.out.box)).trans d1
        obtain ⟨i0, hi, hz0, hz1, hz2⟩ := info_parts Try.infoEntI
        have HI := Lib.hid hi
        have HZ0 := Lib.hid hz0
        have HZ1 := Lib.hid hz1
        have HZ2 := Lib.hid hz2
        clear hi hz0 hz1 hz2
        obtain ⟨ka, hka⟩ : ∃ k, k = gk := ⟨_, rfl⟩
        subst hka
        have HAF : Hid (∀ (g5 cap5 : Nat) (w5 : World), HMem K lo hb g5 (w5.setCell ⟨hb, 1, none⟩ (.slice (some ⟨g5, 0, none⟩) (L.length + 1) cap5)) (.slice (some ⟨g5, 0, none⟩) (L.length + 1) cap5) (L ++ [(x1, puts)]) (puts + 1) →
            (g5 = lb ∨ (W0.drew.alloc (Obj.cells #[Value.int IntKind.i64 x1, Value.int IntKind.i64 puts] 65)).heap.size ≤ g5) →
            Turned (fun k => k = hb ∨ k = lb) (W0.drew.alloc (Obj.cells #[Value.int IntKind.i64 x1, Value.int IntKind.i64 puts] 65)) (w5.setCell ⟨hb, 1, none⟩ (.slice (some ⟨g5, 0, none⟩) (L.length + 1) cap5)) →
            Pushed K lo hb lb w (x1, puts) L puts g5 cap5 (w5.setCell ⟨hb, 1, none⟩ (.slice (some ⟨g5, 0, none⟩) (L.length + 1) cap5))) := fun g5 cap5 w5 hm5 hl5 ht5 =>
          pushed_of HF2.out HB2.out HLB.out (by omega) hm5 hl5 ht5
        go_cut [5] from 42 to 51 (fun s5 wx => ∃ g5 cap5, s5 = .int .i64 ka ∧ Hid (Pushed K lo hb lb w (x1, puts) L puts g5 cap5 wx))
        case first =>
          go_region_law (refine step_append_where rfl (.tmp 46) (.tmp 48) 61 rfl lo 65 i0 (.agg #[.int .i64 0, .int .i64 0]) 2 16 Try.underlying61 HI.out HZ0.out HZ1.out HZ2.out rfl (by decide) (.slice ao L.length cap) L.length (encs L) (by simp [Act.eval]) HOWN.out ⟨W0.heap.size, 0, none⟩ 1 1 (encs [(x1, puts)]) (by simp [Act.eval]) rfl HNEW.out (encs_one _) (by decide) (by unfold maxLen; omega) (by omega) (by have := HLO.out; simp; omega) ?_; intro g5 cap5 w5 hown5 hg5 hc5 hw5; obtain ⟨hbx5, hm5, hl5, ht5⟩ := HMB.out.appended hown5 hg5 hw5; obtain ⟨p0, p1, p2, q0, q1, q2⟩ := three_cells hbx5; have HE := Lib.hid (HAF.out g5 cap5 w5 hm5 hl5 ht5); clear hm5 hl5 ht5 hown5 hg5 hc5 hw5 hbx5)
          all_goals
            go_wp2_with fail
            go_meet
            exact ⟨_, _, rfl, HE⟩
        case rest =>
          obtain ⟨g5, cap5, rfl, HP5⟩ := hcut
          have HI5 := Lib.hid (Hm.PushInv.start HH.out.1.1 hU.out)
          have hbx := HP5.out.mem.box
          obtain ⟨p0, p1, p2, q0, q1, q2⟩ := three_cells hbx
          clear hbx HA HM1 HM2 HMB HOWN HNEW HI HZ0 HZ1 HZ2 HAF d0 d1 d2 g0 g1 g2 y0 y1 e1 c0 c1 c2 f0 f1 f2
          go_wp2
          clear p0 p1 p2 q0 q1 q2
          go_loopg [6] L.length (fun m b wr => ∃ M, b = .int .i64 m ∧ Hid (Hm.PushInv kf L (x1, puts) ka M m) ∧ Hid (HMem K lo hb g5 wr (.slice (some ⟨g5, 0, none⟩) (L.length + 1) cap5) M (puts + 1)) ∧ Hid (Turned (fun k => k = hb ∨ k = lb) w wr) ∧ Hid (wr.heap[w.heap.size]? = some (.cells #[.int .i64 x1, .int .i64 puts] 65 (0, 0))))
          case atStart => exact ⟨_, rfl, HI5, Lib.hid HP5.out.mem, Lib.hid HP5.out.frame, Lib.hid HP5.out.box⟩
          case round =>
            obtain ⟨M, rfl, hI, hM, hF, hB⟩ := hrel
            by_cases hlt5 : ka < gk
            · go_wp2
              have ho := Hm.over_lt (k := gk) (by omega)
              have hlen := hI.out.length
              have hgl := hI.out.le
              obtain ⟨a0, a1⟩ := hM.out.cells (i := Hm.over gk) (by omega)
              obtain ⟨d0, d1, d2, g0, g1, g2⟩ := three_cells hM.out.box
              refine wp_region_still_tail 14 (by kernel_rfl) (by kernel_rfl) ?_
              simp only [List.take_succ_cons, List.take_zero, List.drop_succ_cons, List.drop_zero]
              obtain ⟨V, hV⟩ : ∃ V, wr.drew = V := ⟨_, rfl⟩
              have hMV : HMem K lo hb g5 V (.slice (some ⟨g5, 0, none⟩) (L.length + 1) cap5) M (puts + 1) := by rw [← hV]; exact hM.out.below (below_drew _)
              change wpStill _ _ wr.drew (fun a' => wpList _ _ _ _ a' wr.drew) _ _
              rw [hV]
              clear a0 a1 d0 d1 d2 g0 g1 g2
              obtain ⟨a0, a1⟩ := hMV.cells (i := Hm.over gk) (by omega)
              obtain ⟨d0, d1, d2, g0, g1, g2⟩ := three_cells hMV.box
              have hi0 : (0 : Int) ≤ (Hm.over gk : Nat) := by omega
              have hi1 : ((Hm.over gk : Nat) : Int) < ((L.length + 1 : Nat) : Int) := by omega
              have hi2 : (gk : Int) < ((L.length + 1 : Nat) : Int) := by omega
              have hi3 : (gk : Int) < (L.length : Int) + 1 := by omega
              have hi4 : ((Hm.over gk : Nat) : Int) < (L.length : Int) + 1 := by omega
              have hn1 : Hm.over gk < L.length + 1 := by omega
              have hn2 : gk < L.length + 1 := by omega
              have HMV := Lib.hid hMV
              have HV := Lib.hid hV
              clear hMV hV
              repeat still_step
              still_call (over_any gk V (by omega) (by omega)).mono (fun _ _ h => ⟨h.1, h.2.symm⟩)
              repeat still_step
              refine wpStill_nil ?_
              obtain ⟨c0, c1, f0, f1⟩ := cell_free HMV.out (i := gk) (by omega)
              go_wp2_with (go_at_call 20; refine (over_any gk _ (by omega) (by omega)).mono ?_; rintro e5 w5 ⟨rfl, rfl⟩)
              have HST := Lib.hid (HMV.out.stored (i := gk) (by omega) (Hm.g M (Hm.over gk)))
              have HFV : Hid (Turned (fun k => k = hb ∨ k = lb) w V) := Lib.hid (by have := hF.out.trans (Turned.of_below (R := fun _ => False) (below_drew wr)) (fun _ _ e => e) (fun _ _ e => e.elim); rw [HV.out] at this; exact this)
              have HBV : Hid (V.heap[w.heap.size]? = some (.cells #[.int .i64 x1, .int .i64 puts] 65 (0, 0))) := Lib.hid (by rw [← HV.out]; exact hB.out)
              go_roundg (Hm.over gk)
              case measure => exact ho
              case rel =>
                exact ⟨M.set gk (Hm.g M (Hm.over gk)), rfl, Lib.hid (hI.out.next HH.out.1.1 hlt5), Lib.hid HST.out.1, Lib.hid (HFV.out.trans HST.out.2 (fun _ _ e => e) (fun i hi e => HP5.out.row.elim (fun h => .inr (e.trans h)) (fun h => by omega))),
                  Lib.hid (HST.out.2.old HBV.out (fun e => HP5.out.apart e.symm))⟩
            · obtain ⟨hka, hH1, hH2⟩ := hI.out.last hlt5 HB0.out
              subst hka
              have hlen := hI.out.length
              have hgl := hI.out.le
              go_wp2
              refine wp_region_still_tail 7 (by kernel_rfl) (by kernel_rfl) ?_
              simp only [List.take_succ_cons, List.take_zero, List.drop_succ_cons, List.drop_zero]
              obtain ⟨V, hV⟩ : ∃ V, wr.drew = V := ⟨_, rfl⟩
              have hMV : HMem K lo hb g5 V (.slice (some ⟨g5, 0, none⟩) (L.length + 1) cap5) M (puts + 1) := by rw [← hV]; exact hM.out.below (below_drew _)
              have HFV : Hid (Turned (fun k => k = hb ∨ k = lb) w V) := Lib.hid (by have := hF.out.trans (Turned.of_below (R := fun _ => False) (below_drew wr)) (fun _ _ e => e) (fun _ _ e => e.elim); rw [hV] at this; exact this)
              have hBV : V.heap[w.heap.size]? = some (.cells #[.int .i64 x1, .int .i64 puts] 65 (0, 0)) := by rw [← hV]; exact hB.out
              change wpStill _ _ wr.drew (fun a' => wpList _ _ _ _ a' wr.drew) _ _
              rw [hV]
              obtain ⟨d0, d1, d2, g0, g1, g2⟩ := three_cells hMV.box
              obtain ⟨y0, y1, _⟩ := pair_cells hBV
              obtain ⟨c0, c1, f0, f1⟩ := cell_free hMV (i := gk) (by omega)
              have hi2 : (gk : Int) < ((L.length + 1 : Nat) : Int) := by omega
              have hi3 : (gk : Int) < (L.length : Int) + 1 := by omega
              have hn2 : gk < L.length + 1 := by omega
              have HST := Lib.hid (hMV.stored (i := gk) (by omega) (x1, puts))
              clear hMV hBV hV
              repeat still_step
              refine wpStill_nil ?_
              go_wp2
              go_end0
              refine ⟨rfl, g5, ⟨_, _, HST.out.1, HH.out.1.push x1 hH1 hH2⟩, HP5.out.row, HFV.out.trans HST.out.2 (fun _ _ e => e) (fun i hi e => HP5.out.row.elim (fun h => .inr (e.trans h)) (fun h => by omega))⟩
end Go.Proofs.Ytfghcjhfbbdanaa.Ii
