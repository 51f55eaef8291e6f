/- Contract: the place for something, once the top is gone. -/
import Derived.Test.YtfghcjhfbbdanaaHt
set_option linter.unusedVariables false
namespace Go.Proofs.Ytfghcjhfbbdanaa
open Go.RowKit

/-- The round's world. -/
structure RoomW (w : World) (e : Ent) (W : World) : Prop where
  below : Below w.heap.size w W
  box : W.heap[w.heap.size]? = some (.cells #[.int .i64 e.1.1, .int .i64 e.1.2, .int .i64 e.2] 50 (0, 0))
theorem RoomW.next {w W W' : World} {e : Ent} (h : RoomW w e W) (hb : Below W.heap.size W W') : RoomW w e W' :=
  ⟨h.below.trans (hb.mono h.below.size), heap_below h.box hb (heap_lt h.box)⟩
def RoomPost (kf : Int × Int → Int) (L : List Ent) (n : Nat) (e : Ent) (w : World) (en : Ending) (w' : World) : Prop := ∃ r : Nat, en = .returned (.int .i64 r) ∧ Hm.RoomOk kf (L.take n) e r ∧ Below w.heap.size w w'
/-- What the loop holds. -/
def RoomL (kf : Int × Int → Int) (L : List Ent) (n : Nat) (e : Ent) (k : Nat) : Prop := (k < n ∨ k = 0) ∧ Hm.Least kf (L.take n) k ∧ (k = 0 ∨ Hm.ahead kf (Hm.g L k) e = true)

theorem g_take {L : List Ent} {n i : Nat} (h : i < n) : Hm.g (L.take n) i = Hm.g L i := by
  unfold Hm.g
  simp only [List.getD_eq_getElem?_getD, List.getElem?_take_of_lt h]
/-- The least of those under a place. -/
structure IsKid (kf : Int × Int → Int) (L : List Ent) (n k m : Nat) : Prop where
  pos : 0 < m
  lt : m < n
  over : Hm.over m = k
  least : ∀ s, 0 < s → s < n → Hm.over s = k → Hm.ahead kf (Hm.g L s) (Hm.g L m) = false
theorem kid_one {kf : Int × Int → Int} {L : List Ent} {n k : Nat} (h1 : 2 * k + 1 < n) (h2 : n ≤ 2 * k + 1 + 1) : IsKid kf L n k (2 * k + 1) :=
  ⟨by omega, h1, by unfold Hm.over; omega, fun s h0 hs ho => by
    have : s = 2 * k + 1 := by rcases Hm.over_kid h0 ho with h | h <;> omega
    subst this; exact Hm.nb_refl _⟩
theorem kid_a {kf : Int × Int → Int} {L : List Ent} {n k : Nat} (h1 : 2 * k + 1 + 1 < n) (h : Hm.ahead kf (Hm.g L (2 * k + 1 + 1)) (Hm.g L (2 * k + 1)) = false) : IsKid kf L n k (2 * k + 1) :=
  ⟨by omega, by omega, by unfold Hm.over; omega, fun s h0 hs ho => by
    rcases Hm.over_kid h0 ho with h2 | h2
    · subst h2; exact Hm.nb_refl _
    · subst h2; exact h⟩
theorem kid_b {kf : Int × Int → Int} {L : List Ent} {n k : Nat} (h1 : 2 * k + 1 + 1 < n) (h : Hm.ahead kf (Hm.g L (2 * k + 1 + 1)) (Hm.g L (2 * k + 1)) = true) : IsKid kf L n k (2 * k + 1 + 1) :=
  ⟨by omega, by omega, by unfold Hm.over; omega, fun s h0 hs ho => by
    rcases Hm.over_kid h0 ho with h2 | h2
    · subst h2; exact Hm.nb_of h
    · subst h2; exact Hm.nb_refl _⟩
theorem take_len {L : List Ent} {n : Nat} (h : n ≤ L.length) : (L.take n).length = n := by rw [List.length_take]; omega
theorem room_stop {kf : Int × Int → Int} {L : List Ent} {n k : Nat} {e : Ent} (hn : n ≤ L.length) (h : RoomL kf L n e k) (hc : n ≤ 2 * k + 1) : Hm.RoomOk kf (L.take n) e k := by
  have hl := take_len hn
  obtain ⟨h1, h2, h3⟩ := h
  refine ⟨by rw [hl]; exact h1, h2, ?_, fun c h0 hcl ho => ?_⟩
  · rcases h3 with h3 | h3
    · exact .inl h3
    · rcases h1 with h1 | h1
      · exact .inr (by rw [g_take h1]; exact h3)
      · exact .inl h1
  · rw [hl] at hcl
    rcases Hm.over_kid h0 ho with h | h <;> omega
theorem room_end {kf : Int × Int → Int} {L : List Ent} {n k m : Nat} {e : Ent} (hn : n ≤ L.length) (h : RoomL kf L n e k) (hk : IsKid kf L n k m) (ha : Hm.ahead kf (Hm.g L m) e = false) : Hm.RoomOk kf (L.take n) e k := by
  have hl := take_len hn
  obtain ⟨h1, h2, h3⟩ := h
  refine ⟨by rw [hl]; exact h1, h2, ?_, fun c h0 hcl ho => ?_⟩
  · rcases h3 with h3 | h3
    · exact .inl h3
    · rcases h1 with h1 | h1
      · exact .inr (by rw [g_take h1]; exact h3)
      · exact .inl h1
  · rw [hl] at hcl
    rw [g_take hcl]
    exact Hm.nb_trans (hk.least c h0 hcl ho) ha
theorem room_next {kf : Int × Int → Int} {L : List Ent} {n k m : Nat} {e : Ent} (hn : n ≤ L.length) (h : RoomL kf L n e k) (hk : IsKid kf L n k m) (ha : Hm.ahead kf (Hm.g L m) e = true) : RoomL kf L n e m := by
  have hl := take_len hn
  obtain ⟨h1, h2, h3⟩ := h
  refine ⟨.inl hk.lt, .down hk.pos (by rw [hl]; exact hk.lt) (fun s h0 hs ho => ?_) (by rw [hk.over]; exact h2), .inr ha⟩
  rw [hl] at hs
  rw [g_take hs, g_take hk.lt]
  exact hk.least s h0 hs (by rw [ho, hk.over])
theorem RoomW.drewN {w W : World} {e : Ent} (h : RoomW w e W) (n : Nat) : RoomW w e (W.drewN n) :=
  h.next ⟨rfl, rfl, rfl, Nat.le_refl _, fun _ _ => rfl⟩
theorem RoomW.drew {w W : World} {e : Ent} (h : RoomW w e W) : RoomW w e W.drew :=
  h.next ((Below.refl _ _).drew)

set_option maxHeartbeats 2000000 in
theorem room_any {K : Nat} {kf : Int × Int → Int} (HK : IsOrd K kf) {lo hb lb : Nat} {w : World} {v : Value} {L : List Ent} {puts : Int} (hm : HMem K lo hb lb w v L puts) (e : Ent) (n : Nat) (hn : n ≤ L.length) (hs : L.length ≤ 1000000) :
    Calls Try.prog 21 #[.pointer (some ⟨hb, 0, none⟩), .agg #[.int .i64 e.1.1, .int .i64 e.1.2, .int .i64 e.2], .int .i64 n] w (RoomPost kf L n e w) := by
  obtain ⟨⟨e1, e2⟩, e3⟩ := e
  have hlt := heap_lt hm.box
  have HA := Lib.hid (fun (a b s t m p : Int) (W : World) (hB : Below w.heap.size w W) => ahead_any HK a b s t m p W hb v puts (heap_below hm.box hB hlt))
  have HC := Lib.hid (fun (W : World) (hB : Below w.heap.size w W) => (hm.below hB))
  have HM := Lib.hid hm
  have hsh : ∃ ao cap, v = .slice ao L.length cap ∧ (L.length = 0 ∨ ao = some ⟨lb, 0, none⟩) ∧ L.length ≤ cap := by
    rcases hm.shape with ⟨rfl, rfl⟩ | ⟨cap, cur, rfl, _, _, hc, _⟩
    · exact ⟨none, 0, rfl, .inl rfl, Nat.le_refl _⟩
    · exact ⟨_, cap, rfl, .inr rfl, hc⟩
  obtain ⟨ao, cap, rfl, hao, hcap⟩ := hsh
  clear hm
  go_enter Try.func21, Try.ntmps21
  go_wp2
  go_loopw [7] (fun i wr => ∃ k : Nat, i = .int .i64 k ∧ k ≤ 1000000 ∧ Hid (RoomL kf L n ((e1, e2), e3) k) ∧ Hid (RoomW w ((e1, e2), e3) wr)) (fun i _ => 1000001 - (intOf i).toNat)
  case atStart => exact ⟨0, rfl, by omega, Lib.hid ⟨.inr rfl, .top, .inl rfl⟩, Lib.hid ⟨(Below.refl _ _).alloc (Nat.le_refl _) _, heap_new _ rfl⟩⟩
  case round =>
    obtain ⟨k, rfl, hk, hL, hW⟩ := hrel
    by_cases hc : n ≤ 2 * k + 1
    · have HB := Lib.hid (And.intro (room_stop hn hL.out hc) hW.out.below)
      clear hao
      go_wp2
      go_ret
      exact ⟨k, rfl, HB.out.1, HB.out.2⟩
    · have hkn : k < n := by rcases hL.out.1 with h | h <;> omega
      have haos : ao = some ⟨lb, 0, none⟩ := hao.resolve_left (by omega)
      subst haos
      clear hao
      by_cases hc2 : n ≤ 2 * k + 1 + 1
      · have hd : decide ((2 * (k : Int) + 1 + 1) < (n : Int)) = false := by simp; omega
        have HK1 := Lib.hid (kid_one (kf := kf) (L := L) (by omega : 2 * k + 1 < n) hc2)
        go_wp2
        go_quiet (fail)
        go_wp2
        have HW := Lib.hid (hW.out.drewN nq)
        obtain ⟨V, hV⟩ : ∃ V, wr.drewN nq = V := ⟨_, rfl⟩
        rw [hV] at HW ⊢
        clear hV hW hd
        have HSa : Hid (∀ W, RoomW w ((e1, e2), e3) W → (W.cell? ⟨hb, 1, none⟩ = some (.slice (some ⟨lb, 0, none⟩) L.length cap) ∧ W.cell? ⟨lb, (2 * k + 1) * 3, none⟩ = some (.int .i64 (Hm.g L (2 * k + 1)).1.1) ∧ W.cell? ⟨lb, (2 * k + 1) * 3 + 1, none⟩ = some (.int .i64 (Hm.g L (2 * k + 1)).1.2) ∧ W.cell? ⟨lb, (2 * k + 1) * 3 + 2, none⟩ = some (.int .i64 (Hm.g L (2 * k + 1)).2) ∧ W.cell? ⟨w.heap.size, 0, none⟩ = some (.int .i64 e1) ∧ W.cell? ⟨w.heap.size, 1, none⟩ = some (.int .i64 e2) ∧ W.cell? ⟨w.heap.size, 2, none⟩ = some (.int .i64 e3) ∧ Hid (RoomW w ((e1, e2), e3) W))) := fun W hW => by
          have haM := HC.out _ hW.below
          obtain ⟨a0, a1, a2⟩ := haM.cells (i := 2 * k + 1) (by omega)
          have cb := (three_cells haM.box).2.1
          obtain ⟨x0, x1, x2, _⟩ := three_cells hW.box
          exact ⟨cb, a0, a1, a2, x0, x1, x2, Lib.hid hW⟩
        have ht0 : (2 * (k : Int) + 1 : Int).toNat = 2 * k + 1 := by omega
        have hi0 : (0 : Int) ≤ 2 * (k : Int) + 1 := by omega
        have hi1 : (2 * (k : Int) + 1 : Int) < (L.length : Int) := by omega
        obtain ⟨cb, a0, a1, a2, x0, x1, x2, _⟩ := HSa.out _ HW.out
        go_region_held3 (fun w' => w'.cell? ⟨hb, 1, none⟩ = some (.slice (some ⟨lb, 0, none⟩) L.length cap) ∧ w'.cell? ⟨lb, (2 * k + 1) * 3, none⟩ = some (.int .i64 (Hm.g L (2 * k + 1)).1.1) ∧ w'.cell? ⟨lb, (2 * k + 1) * 3 + 1, none⟩ = some (.int .i64 (Hm.g L (2 * k + 1)).1.2) ∧ w'.cell? ⟨lb, (2 * k + 1) * 3 + 2, none⟩ = some (.int .i64 (Hm.g L (2 * k + 1)).2) ∧ w'.cell? ⟨w.heap.size, 0, none⟩ = some (.int .i64 e1) ∧ w'.cell? ⟨w.heap.size, 1, none⟩ = some (.int .i64 e2) ∧ w'.cell? ⟨w.heap.size, 2, none⟩ = some (.int .i64 e3) ∧ Hid (RoomW w ((e1, e2), e3) w')) (first | exact ⟨cb, a0, a1, a2, x0, x1, x2, HW⟩ | exact ⟨cb, a0, a1, a2, x0, x1, x2, Lib.hid HW.out.drew⟩ | exact HSa.out _ (HW.out.drew.next hB1.out)) (first | (go_at_call 19; refine (HA.out _ _ _ _ _ _ _ HW.out.drew.below).mono ?_; rintro e5 w5 ⟨rfl, hB⟩; have hB1 := Lib.hid hB; clear hB))
        have HW5 := Lib.hid (HW.out.drew.next hB1.out)
        clear cb a0 a1 a2 x0 x1 x2 ht0
        generalize hb7 : Hm.ahead kf (((Hm.g L (2 * k + 1)).1.1, (Hm.g L (2 * k + 1)).1.2), (Hm.g L (2 * k + 1)).2) ((e1, e2), e3) = b7
        have HB2 := Lib.hid hb7
        clear hb7
        cases b7
        case true =>
          go_wp2
          go_roundw
          case rel => exact ⟨2 * k + 1, by go_num, by omega, Lib.hid (room_next hn hL.out HK1.out HB2.out), HW5⟩
          case measure => simp [intOf]; omega
        case false =>
          go_wp2
          go_ret
          exact ⟨k, rfl, room_end hn hL.out HK1.out HB2.out, HW5.out.below⟩
      · have hd : decide ((2 * (k : Int) + 1 + 1) < (n : Int)) = true := by simp; omega
        have HS5 : Hid (∀ W, RoomW w ((e1, e2), e3) W → (W.cell? ⟨hb, 1, none⟩ = some (.slice (some ⟨lb, 0, none⟩) L.length cap) ∧ W.cell? ⟨lb, (2 * k + 1 + 1) * 3, none⟩ = some (.int .i64 (Hm.g L (2 * k + 1 + 1)).1.1) ∧ W.cell? ⟨lb, (2 * k + 1 + 1) * 3 + 1, none⟩ = some (.int .i64 (Hm.g L (2 * k + 1 + 1)).1.2) ∧ W.cell? ⟨lb, (2 * k + 1 + 1) * 3 + 2, none⟩ = some (.int .i64 (Hm.g L (2 * k + 1 + 1)).2) ∧ W.cell? ⟨lb, (2 * k + 1) * 3, none⟩ = some (.int .i64 (Hm.g L (2 * k + 1)).1.1) ∧ W.cell? ⟨lb, (2 * k + 1) * 3 + 1, none⟩ = some (.int .i64 (Hm.g L (2 * k + 1)).1.2) ∧ W.cell? ⟨lb, (2 * k + 1) * 3 + 2, none⟩ = some (.int .i64 (Hm.g L (2 * k + 1)).2) ∧ Hid (RoomW w ((e1, e2), e3) W))) := fun W hW => by
          have haM := HC.out _ hW.below
          obtain ⟨a0, a1, a2⟩ := haM.cells (i := 2 * k + 1 + 1) (by omega)
          obtain ⟨d0, d1, d2⟩ := haM.cells (i := 2 * k + 1) (by omega)
          have cb := (three_cells haM.box).2.1
          exact ⟨cb, a0, a1, a2, d0, d1, d2, Lib.hid hW⟩
        have ht1 : (2 * (k : Int) + 1).toNat = 2 * k + 1 := by omega
        have ht2 : (2 * (k : Int) + 1 + 1).toNat = 2 * k + 1 + 1 := by omega
        have hj0 : (0 : Int) ≤ 2 * (k : Int) + 1 := by omega
        have hj1 : (2 * (k : Int) + 1) < (L.length : Int) := by omega
        have hj2 : (0 : Int) ≤ 2 * (k : Int) + 1 + 1 := by omega
        have hj3 : (2 * (k : Int) + 1 + 1) < (L.length : Int) := by omega
        go_wp2
        obtain ⟨cb, a0, a1, a2, d0, d1, d2, _⟩ := HS5.out _ hW.out
        have hw5 : IntKind.i64.wrap (2 * (k : Int) + 1 + 1) = 2 * (k : Int) + 1 + 1 := IntWalk.i64_in _ (by omega)
        go_region_held3 (fun w' => w'.cell? ⟨hb, 1, none⟩ = some (.slice (some ⟨lb, 0, none⟩) L.length cap) ∧ w'.cell? ⟨lb, (2 * k + 1 + 1) * 3, none⟩ = some (.int .i64 (Hm.g L (2 * k + 1 + 1)).1.1) ∧ w'.cell? ⟨lb, (2 * k + 1 + 1) * 3 + 1, none⟩ = some (.int .i64 (Hm.g L (2 * k + 1 + 1)).1.2) ∧ w'.cell? ⟨lb, (2 * k + 1 + 1) * 3 + 2, none⟩ = some (.int .i64 (Hm.g L (2 * k + 1 + 1)).2) ∧ w'.cell? ⟨lb, (2 * k + 1) * 3, none⟩ = some (.int .i64 (Hm.g L (2 * k + 1)).1.1) ∧ w'.cell? ⟨lb, (2 * k + 1) * 3 + 1, none⟩ = some (.int .i64 (Hm.g L (2 * k + 1)).1.2) ∧ w'.cell? ⟨lb, (2 * k + 1) * 3 + 2, none⟩ = some (.int .i64 (Hm.g L (2 * k + 1)).2) ∧ Hid (RoomW w ((e1, e2), e3) w')) (first | exact ⟨cb, a0, a1, a2, d0, d1, d2, hW⟩ | exact ⟨cb, a0, a1, a2, d0, d1, d2, Lib.hid hW.out.drew⟩ | exact HS5.out _ (hW.out.drew.next hB1.out)) (first | (go_at_call 19; refine (HA.out _ _ _ _ _ _ _ hW.out.drew.below).mono ?_; rintro e5 w5 ⟨rfl, hB⟩; have hB1 := Lib.hid hB; clear hB))
        have HW := Lib.hid (hW.out.drew.next hB1.out)
        clear cb a0 a1 a2 d0 d1 d2 hW hB1 ht1 ht2 hw5
        generalize hb1 : Hm.ahead kf (((Hm.g L (2 * k + 1 + 1)).1.1, (Hm.g L (2 * k + 1 + 1)).1.2), (Hm.g L (2 * k + 1 + 1)).2) (((Hm.g L (2 * k + 1)).1.1, (Hm.g L (2 * k + 1)).1.2), (Hm.g L (2 * k + 1)).2) = b5
        cases b5
        case true =>
          have HK1 := Lib.hid (kid_b (kf := kf) (L := L) (by omega : 2 * k + 1 + 1 < n) hb1)
          clear hb1
          go_wp2
          have HSa : Hid (∀ W, RoomW w ((e1, e2), e3) W → (W.cell? ⟨hb, 1, none⟩ = some (.slice (some ⟨lb, 0, none⟩) L.length cap) ∧ W.cell? ⟨lb, (2 * k + 1 + 1) * 3, none⟩ = some (.int .i64 (Hm.g L (2 * k + 1 + 1)).1.1) ∧ W.cell? ⟨lb, (2 * k + 1 + 1) * 3 + 1, none⟩ = some (.int .i64 (Hm.g L (2 * k + 1 + 1)).1.2) ∧ W.cell? ⟨lb, (2 * k + 1 + 1) * 3 + 2, none⟩ = some (.int .i64 (Hm.g L (2 * k + 1 + 1)).2) ∧ W.cell? ⟨w.heap.size, 0, none⟩ = some (.int .i64 e1) ∧ W.cell? ⟨w.heap.size, 1, none⟩ = some (.int .i64 e2) ∧ W.cell? ⟨w.heap.size, 2, none⟩ = some (.int .i64 e3) ∧ Hid (RoomW w ((e1, e2), e3) W))) := fun W hW => by
            have haM := HC.out _ hW.below
            obtain ⟨a0, a1, a2⟩ := haM.cells (i := 2 * k + 1 + 1) (by omega)
            have cb := (three_cells haM.box).2.1
            obtain ⟨x0, x1, x2, _⟩ := three_cells hW.box
            exact ⟨cb, a0, a1, a2, x0, x1, x2, Lib.hid hW⟩
          have ht0 : (2 * (k : Int) + 1 + 1 : Int).toNat = 2 * k + 1 + 1 := by omega
          have hi0 : (0 : Int) ≤ 2 * (k : Int) + 1 + 1 := by omega
          have hi1 : (2 * (k : Int) + 1 + 1 : Int) < (L.length : Int) := by omega
          obtain ⟨cb, a0, a1, a2, x0, x1, x2, _⟩ := HSa.out _ HW.out
          go_region_held3 (fun w' => w'.cell? ⟨hb, 1, none⟩ = some (.slice (some ⟨lb, 0, none⟩) L.length cap) ∧ w'.cell? ⟨lb, (2 * k + 1 + 1) * 3, none⟩ = some (.int .i64 (Hm.g L (2 * k + 1 + 1)).1.1) ∧ w'.cell? ⟨lb, (2 * k + 1 + 1) * 3 + 1, none⟩ = some (.int .i64 (Hm.g L (2 * k + 1 + 1)).1.2) ∧ w'.cell? ⟨lb, (2 * k + 1 + 1) * 3 + 2, none⟩ = some (.int .i64 (Hm.g L (2 * k + 1 + 1)).2) ∧ w'.cell? ⟨w.heap.size, 0, none⟩ = some (.int .i64 e1) ∧ w'.cell? ⟨w.heap.size, 1, none⟩ = some (.int .i64 e2) ∧ w'.cell? ⟨w.heap.size, 2, none⟩ = some (.int .i64 e3) ∧ Hid (RoomW w ((e1, e2), e3) w')) (first | exact ⟨cb, a0, a1, a2, x0, x1, x2, HW⟩ | exact ⟨cb, a0, a1, a2, x0, x1, x2, Lib.hid HW.out.drew⟩ | exact HSa.out _ (HW.out.drew.next hB1.out)) (first | (go_at_call 19; refine (HA.out _ _ _ _ _ _ _ HW.out.drew.below).mono ?_; rintro e5 w5 ⟨rfl, hB⟩; have hB1 := Lib.hid hB; clear hB))
          have HW5 := Lib.hid (HW.out.drew.next hB1.out)
          clear cb a0 a1 a2 x0 x1 x2 ht0
          generalize hb7 : Hm.ahead kf (((Hm.g L (2 * k + 1 + 1)).1.1, (Hm.g L (2 * k + 1 + 1)).1.2), (Hm.g L (2 * k + 1 + 1)).2) ((e1, e2), e3) = b7
          have HB2 := Lib.hid hb7
          clear hb7
          cases b7
          case true =>
            go_wp2
            go_roundw
            case rel => exact ⟨2 * k + 1 + 1, by go_num, by omega, Lib.hid (room_next hn hL.out HK1.out HB2.out), HW5⟩
            case measure => simp [intOf]; omega
          case false =>
            go_wp2
            go_ret
            exact ⟨k, rfl, room_end hn hL.out HK1.out HB2.out, HW5.out.below⟩
        case false =>
          have HK1 := Lib.hid (kid_a (kf := kf) (L := L) (by omega : 2 * k + 1 + 1 < n) hb1)
          clear hb1
          go_wp2
          have HSa : Hid (∀ W, RoomW w ((e1, e2), e3) W → (W.cell? ⟨hb, 1, none⟩ = some (.slice (some ⟨lb, 0, none⟩) L.length cap) ∧ W.cell? ⟨lb, (2 * k + 1) * 3, none⟩ = some (.int .i64 (Hm.g L (2 * k + 1)).1.1) ∧ W.cell? ⟨lb, (2 * k + 1) * 3 + 1, none⟩ = some (.int .i64 (Hm.g L (2 * k + 1)).1.2) ∧ W.cell? ⟨lb, (2 * k + 1) * 3 + 2, none⟩ = some (.int .i64 (Hm.g L (2 * k + 1)).2) ∧ W.cell? ⟨w.heap.size, 0, none⟩ = some (.int .i64 e1) ∧ W.cell? ⟨w.heap.size, 1, none⟩ = some (.int .i64 e2) ∧ W.cell? ⟨w.heap.size, 2, none⟩ = some (.int .i64 e3) ∧ Hid (RoomW w ((e1, e2), e3) W))) := fun W hW => by
            have haM := HC.out _ hW.below
            obtain ⟨a0, a1, a2⟩ := haM.cells (i := 2 * k + 1) (by omega)
            have cb := (three_cells haM.box).2.1
            obtain ⟨x0, x1, x2, _⟩ := three_cells hW.box
            exact ⟨cb, a0, a1, a2, x0, x1, x2, Lib.hid hW⟩
          have ht0 : (2 * (k : Int) + 1 : Int).toNat = 2 * k + 1 := by omega
          have hi0 : (0 : Int) ≤ 2 * (k : Int) + 1 := by omega
          have hi1 : (2 * (k : Int) + 1 : Int) < (L.length : Int) := by omega
          obtain ⟨cb, a0, a1, a2, x0, x1, x2, _⟩ := HSa.out _ HW.out
          go_region_held3 (fun w' => w'.cell? ⟨hb, 1, none⟩ = some (.slice (some ⟨lb, 0, none⟩) L.length cap) ∧ w'.cell? ⟨lb, (2 * k + 1) * 3, none⟩ = some (.int .i64 (Hm.g L (2 * k + 1)).1.1) ∧ w'.cell? ⟨lb, (2 * k + 1) * 3 + 1, none⟩ = some (.int .i64 (Hm.g L (2 * k + 1)).1.2) ∧ w'.cell? ⟨lb, (2 * k + 1) * 3 + 2, none⟩ = some (.int .i64 (Hm.g L (2 * k + 1)).2) ∧ w'.cell? ⟨w.heap.size, 0, none⟩ = some (.int .i64 e1) ∧ w'.cell? ⟨w.heap.size, 1, none⟩ = some (.int .i64 e2) ∧ w'.cell? ⟨w.heap.size, 2, none⟩ = some (.int .i64 e3) ∧ Hid (RoomW w ((e1, e2), e3) w')) (first | exact ⟨cb, a0, a1, a2, x0, x1, x2, HW⟩ | exact ⟨cb, a0, a1, a2, x0, x1, x2, Lib.hid HW.out.drew⟩ | exact HSa.out _ (HW.out.drew.next hB1.out)) (first | (go_at_call 19; refine (HA.out _ _ _ _ _ _ _ HW.out.drew.below).mono ?_; rintro e5 w5 ⟨rfl, hB⟩; have hB1 := Lib.hid hB; clear hB))
          have HW5 := Lib.hid (HW.out.drew.next hB1.out)
          clear cb a0 a1 a2 x0 x1 x2 ht0
          generalize hb7 : Hm.ahead kf (((Hm.g L (2 * k + 1)).1.1, (Hm.g L (2 * k + 1)).1.2), (Hm.g L (2 * k + 1)).2) ((e1, e2), e3) = b7
          have HB2 := Lib.hid hb7
          clear hb7
          cases b7
          case true =>
            go_wp2
            go_roundw
            case rel => exact ⟨2 * k + 1, by go_num, by omega, Lib.hid (room_next hn hL.out HK1.out HB2.out), HW5⟩
            case measure => simp [intOf]; omega
          case false =>
            go_wp2
            go_ret
            exact ⟨k, rfl, room_end hn hL.out HK1.out HB2.out, HW5.out.below⟩
end Go.Proofs.Ytfghcjhfbbdanaa
