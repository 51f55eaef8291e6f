/- Contracts: a copy of weights; a new graph. -/
import Derived.Test.YtjcmeacgfflfmaaGreatGo
import Derived.Test.YtjcmeacgfflfmaaGreatCol
import Derived.Laws.BytesArg
import Derived.Lib.LazyBuf
import Derived.Laws.MakeOwn
import Derived.Deep.RegionWith
set_option linter.unusedVariables false
set_option linter.unusedSectionVars false
namespace Go.Proofs.YtjcmeacgfflfmaaGreat
open Go.RowKit Rk

theorem Tryz.infoI64 : (Tryz.prog.info? 2).map (fun i => (i.zero, i.size, i.bytes)) = some (some (.int .i64 0), 1, 8) := by kernel_rfl
def Clone64Post (w : World) (zs : List Int) (e : Ending) (w' : World) : Prop :=
  ∃ a b cap, e = .returned (.slice a zs.length cap) ∧ zs.length ≤ cap ∧ IntsAt .i64 w'.heap.size w' a b 0 zs.length zs ∧ (zs.length = 0 ∨ w.heap.size ≤ b) ∧ Below w.heap.size w w' ∧ (a = none → zs.length = 0 ∧ cap = 0) ∧ (zs.length = 0 ∨ ∃ cur, w'.heap[b]? = some (.cells cur 2 (0, 0)))
theorem clone64_any {B : Nat} {w : World} {a : Option Addr} {b off len cap : Nat} {zs : List Int} (h : IntsAt .i64 B w a b off len zs) (h0 : a = none → len = 0 ∧ cap = 0) (hcap : len ≤ 65536) :
    Calls Tryz.prog 87 #[.slice a len cap] w (Clone64Post w zs) := by
  have heq := fun (w : World) => run_eql_slice_nil (P := Tryz.prog) w 82 2 a len cap Tryz.underlying82
  have HL := Lib.hid h.length
  cases a with
  | none =>
    obtain ⟨rfl, rfl⟩ := h0 rfl
    have hz : zs = [] := List.eq_nil_of_length_eq_zero h.length
    subst hz
    clear h h0
    go_enter Tryz.func87, Tryz.ntmps87
    go_wp2
    go_ret
    exact ⟨none, 0, 0, rfl, Nat.le_refl _, ⟨.inl rfl, rfl, Nat.zero_le _, .inl rfl, fun i hi => absurd hi (Nat.not_lt_zero _), fun n hn => by simp at hn⟩, .inl rfl, Below.refl _ _, fun _ => ⟨rfl, rfl⟩, .inl rfl⟩
  | some x =>
    obtain ⟨i0, hi, hz0, hz1, hz2⟩ := info_parts Tryz.infoI64
    have HI := Lib.hid hi
    have HZ0 := Lib.hid hz0
    have HZ1 := Lib.hid hz1
    have HZ2 := Lib.hid hz2
    have H := Lib.hid h
    have hcells : ∀ o : Obj, ∀ j u, (ivals .i64 zs)[j]? = some u → (w.alloc o).cell? (x.add j) = some u := by
      intro o j u hj
      unfold ivals at hj
      rw [List.getElem?_map] at hj
      obtain ⟨n, hn, rfl⟩ := Option.map_eq_some_iff.1 hj
      obtain ⟨hjl, hjn⟩ := List.getElem?_eq_some_iff.1 hn
      have hlen := h.length
      have hx : some x = some ⟨b, off, none⟩ := h.addr.resolve_left (by omega)
      cases hx
      have hc := h.cell j (by omega)
      have hlt : b < w.heap.size := by have := World.block_lt_of_cell? _ _ hc; exact this
      rw [addr_add, World.cell?_alloc_lt w o (a := ⟨b, off + j, none⟩) hlt, hc]
      simp [List.getD, hn]
    have HC := Lib.hid hcells
    clear h h0 hi hz0 hz1 hz2 hcells
    go_enter Tryz.func87, Tryz.ntmps87
    go_wp2_with (at_builtin; refine wpList_append_own _ rfl _ _ 82 rfl w.heap.size 2 i0 (.int .i64 0) 1 8 Tryz.underlying82 HI.out HZ0.out HZ1.out HZ2.out rfl (by decide) (.slice (some ⟨w.heap.size, 0, none⟩) 0 0) 0 [] rfl (World.ownsRow_made w #[] 0 (Nat.le_refl _) (Nat.zero_le _) rfl) x len cap (ivals .i64 zs) rfl (by unfold ivals; rw [List.length_map, HL.out, Nat.mul_one]) (HC.out _) (by unfold ivals; intro u hu; obtain ⟨n, _, rfl⟩ := List.mem_map.1 hu; rfl) (by unfold maxLen; omega) (by omega) (by simp) ?_; intro v' w1 hown hgrow hnil)
    rw [List.nil_append, Nat.zero_add] at hown
    obtain ⟨a5, cap5, b5, rfl, hc1, hc2, hb5, HS⟩ := Gath.ints (.inr hown) HL.out H.out.fits
    have hcel : len = 0 ∨ ∃ cur, w1.heap[b5]? = some (.cells cur 2 (0, 0)) := by
      by_cases h0 : len = 0
      · exact .inl h0
      · refine .inr ?_
        rcases hown.2 with ⟨h1, h2⟩ | ⟨g, c9, cur, h1, _, hg, _⟩
        · exact absurd h2 h0
        · have h3 : a5 = some ⟨b5, 0, none⟩ := HS.addr.resolve_left h0
          rw [h3] at h1
          cases h1
          exact ⟨cur, hg⟩
    have hnc : a5 = none → len = 0 ∧ cap5 = 0 := by
      intro e
      rcases hown.2 with ⟨h1, _⟩ | ⟨g, _, _, h1, _⟩
      · cases h1; exact ⟨rfl, rfl⟩
      · cases h1; cases e
    go_ret
    refine ⟨a5, b5, cap5, ?_, ?_, ?_, ?_, ((Below.refl _ w).alloc (Nat.le_refl _) _).grown hgrow (by simp) (fun k hk => ?_), ?_, ?_⟩
    · show Ending.returned (.slice a5 len cap5) = _
      rw [HL.out]
    · rw [HL.out]; exact hc1
    · rw [HL.out]; exact HS
    · rw [HL.out]; exact hb5
    · simp [Value.ownBlock] at hk; omega
    · rw [HL.out]; exact hnc
    · rw [HL.out]; exact hcel

/-- What New tells. -/
def newE (zs : List Int) : Int := if 4096 < zs.length then 3 else if zs.all may = true then 0 else 23
def NewPost (zs : List Int) (w : World) (e : Ending) (w' : World) : Prop :=
  Below w.heap.size w w' ∧ ((newE zs ≠ 0 ∧ e = .returned (.tuple #[.pointer none, .int .i64 (newE zs)])) ∨
    (newE zs = 0 ∧ ∃ g nb, e = .returned (.tuple #[.pointer (some ⟨g, 0, none⟩), .int .i64 0]) ∧ IsG w' g nb zs noTab ∧ w.heap.size ≤ g ∧ w.heap.size ≤ nb))
theorem Tryz.infoMap : (Tryz.prog.info? 95).map (fun i => (i.zero, i.size, i.bytes)) = some (some (.agg #[.pointer none]), 1, 8) := by kernel_rfl
theorem madeMap (w : World) (n : Nat) (hn : n ≤ 4096) :
    (Instr.makeSlice 88 (.int .i64 (n : Int)) (.int .i64 (n : Int))).run Tryz.prog w = .ok (.slice (some ⟨w.heap.size, 0, none⟩) n n) (w.alloc (.cells (madeCells #[.pointer none] n) 95)) := by
  obtain ⟨i0, hi, hz0, hz1, hz2⟩ := info_parts Tryz.infoMap
  have h := run_make (P := Tryz.prog) w 88 95 i0 _ Tryz.underlying88 hi hz0 .i64 .i64 n n (by omega) (Int.le_refl _) (by rw [hz2]; omega) (by omega)
  rw [hz1, show (Value.agg #[Value.pointer none]).cells = #[Value.pointer none] from rfl] at h
  simpa using h
theorem new_map {w' : World} {n m : Nat} (h : w'.heap[m]? = some (.cells (madeCells #[.pointer none] n) 95 (0, 0))) (i : Nat) (hi : i < n) : IsM w' m i [] :=
  ⟨none, .nil, _, h, by simp [madeCells, hi, Nat.mod_one], rfl, rfl, List.Pairwise.nil⟩
theorem rowOf_none (n i : Nat) : rowOf n (noTab i) = [] := by
  induction n with
  | zero => rfl
  | succ n ih => rw [rowOf_succ, ih]; simp [noTab]
theorem new_done {w W : World} {g nb b1 cap1 len : Nat} {a1 : Option Addr} {zs : List Int} (hB : Below w.heap.size w W) (hg : W.heap[g]? = some (.cells #[.slice a1 zs.length cap1, .slice (some ⟨nb, 0, none⟩) len len] 90 (0, 0)))
    (hm : W.heap[nb]? = some (.cells (madeCells #[.pointer none] len) 95 (0, 0))) (hI : IntsAt .i64 W.heap.size W a1 b1 0 zs.length zs) (hl : zs.length = len) (hs : len ≤ 4096) (hA : zs.all may = true) (hE : newE zs = 0) (h1 : w.heap.size ≤ g) (h2 : w.heap.size ≤ nb) :
    NewPost zs w (.returned (.tuple #[.pointer (some ⟨g, 0, none⟩), .int .i64 0])) W := by
  subst hl
  exact ⟨hB, .inr ⟨hE, g, nb, rfl, ⟨⟨a1, cap1, b1, hg, hI⟩, ⟨_, hm⟩, fun i hi => by rw [rowOf_none]; exact new_map hm i hi, Tab.none _, hs, fun x hx => may_t (List.all_eq_true.1 hA x hx)⟩, h1, h2⟩⟩
set_option maxHeartbeats 1000000 in
theorem new_any {w : World} {a : Option Addr} {b off len cap : Nat} {zs : List Int} (h : IntsAt .i64 w.heap.size w a b off len zs) (h0 : a = none → len = 0 ∧ cap = 0) :
    Calls Tryz.prog 49 #[.slice a len cap] w (NewPost zs w) := by
  have hlz := h.length
  have hsm := h.small
  unfold maxLen at hsm
  by_cases hbig : 4096 < len
  · have HE : Hid (newE zs = 3) := Lib.hid (by unfold newE; rw [if_pos (by omega)])
    clear h h0 hlz
    go_enter Tryz.func49, Tryz.ntmps49
    go_wp2
    go_ret2
    exact ⟨Below.refl _ _, .inl ⟨by rw [HE.out]; decide, by rw [HE.out]; rfl⟩⟩
  · have HI := Lib.hid h
    have HN := Lib.hid h0
    have HL := Lib.hid hlz
    have hl2 : len ≤ 4096 := by omega
    clear h h0 hlz hsm
    go_enter Tryz.func49, Tryz.ntmps49
    go_wp2
    go_loop [11] (fun i => ∃ (k : Nat), k ≤ len ∧ i = .int .i64 k ∧ Hid ((zs.take k).all may = true)) (fun i => len - (intOf i).toNat)
    case atStart => exact ⟨0, Nat.zero_le _, rfl, Lib.hid rfl⟩
    case round =>
      obtain ⟨k, hk, rfl, hs⟩ := hrel
      by_cases hlt : k < len
      · have hcell := HI.out.cell k hlt
        have hkz : k < zs.length := by rw [HL.out]; exact hlt
        obtain rfl : a = some ⟨b, off, none⟩ := HI.out.addr.resolve_left (by omega)
        have HT : Hid (zs.take (k + 1) = zs.take k ++ [zs.getD k 0]) := Lib.hid (by rw [List.take_succ_eq_append_getElem hkz, List.getD_eq_getElem?_getD, List.getElem?_eq_getElem hkz]; rfl)
        have HM : Hid (zs.getD k 0 ∈ zs) := Lib.hid (by rw [List.getD_eq_getElem?_getD, List.getElem?_eq_getElem hkz]; exact List.getElem_mem hkz)
        generalize zs.getD k 0 = x at *
        cases hx : may x with
        | true =>
          have HX := Lib.hid hx
          have HR := Lib.hid (right_any x)
          rw [hx] at HR
          clear hx hkz
          go_wp2_with (go_at_call 86; refine (HR.out _).mono ?_; rintro e w' ⟨rfl, rfl⟩)
          go_round
          case rel => exact ⟨k + 1, by omega, by go_num, Lib.hid (by rw [HT.out, List.all_append, hs.out]; simp [HX.out])⟩
          case measure => simp [intOf]; omega
        | false =>
          have HR := Lib.hid (right_any x)
          rw [hx] at HR
          have HE : Hid (newE zs = 23) := Lib.hid (by
            unfold newE
            rw [if_neg (by have := HL.out; omega), if_neg]
            intro hall
            have := List.all_eq_true.1 hall x HM.out
            rw [hx] at this; cases this)
          clear hx hkz
          go_wp2_with (go_at_call 86; refine (HR.out _).mono ?_; rintro e w' ⟨rfl, rfl⟩)
          go_ret2
          exact ⟨Below.refl _ _, .inl ⟨by rw [HE.out]; decide, by rw [HE.out]; rfl⟩⟩
      · have HA : Hid (zs.all may = true) := Lib.hid (by rw [← hs.out, List.take_of_length_le (by have := HL.out; omega)])
        have HE : Hid (newE zs = 0) := Lib.hid (by unfold newE; rw [if_neg (by have := HL.out; omega), if_pos HA.out])
        have hmk := fun W => madeMap W len hl2
        have HC : Hid (∀ W, Below w.heap.size w W → Calls Tryz.prog 87 #[.slice a len cap] W (Clone64Post W zs)) := Lib.hid (fun W hW => clone64_any (cap := cap) (HI.out.kept hW (Nat.le_refl _)) HN.out (by omega))
        clear hs
        go_wp2
        go_region_with (go_at_call 87; refine (HC.out _ (by first | exact Below.refl _ _ | exact (Below.refl _ _).drew | exact (Below.refl _ _).alloc (Nat.le_refl _) _ | exact ((Below.refl _ _).drew).alloc (Nat.le_refl _) _)).mono ?_; rintro e w1 ⟨a1, b1, cap1, rfl, hc1, hI1, hb1, hB1, hn1, ht1⟩)
        · have hw1 : Below w.heap.size w w1 := ((Below.refl _ w).drew).trans hB1
          have hz1 := hw1.size
          have b1' : Below w1.heap.size w1 ((w1.alloc (.cells (madeCells #[.pointer none] len) 95)).alloc (.cells #[.slice a1 zs.length cap1, .slice (some ⟨w1.heap.size, 0, none⟩) len len] 90)) := ((Below.refl _ w1).alloc (Nat.le_refl _) _).alloc (by simp) _
          have HP := Lib.hid (new_done (w := w) (g := w1.heap.size + 1) (nb := w1.heap.size) (len := len) (hw1.trans (b1'.mono hz1)) (heap_new _ (by simp)) (heap_alloc (heap_new _ rfl) _) ((hI1.kept b1' (Nat.le_refl _)).mono b1'.size) HL.out hl2 HA.out HE.out (by omega) hz1)
          clear hw1 b1' hI1 hb1 hB1 hn1 ht1
          go_wp2
          go_ret2
          exact HP.out
        · have hw0 : Below w.heap.size w (w.alloc (.cells (madeCells #[.pointer none] len) 95)).drew := ((Below.refl _ w).alloc (Nat.le_refl _) _).drew
          have hw1 : Below w.heap.size w w1 := hw0.trans (hB1.mono hw0.size)
          have hz1 := hw1.size
          have hm1 : w1.heap[w.heap.size]? = some (.cells (madeCells #[.pointer none] len) 95 (0, 0)) := heap_below (w := (w.alloc (.cells (madeCells #[.pointer none] len) 95)).drew) (show (w.alloc (.cells (madeCells #[.pointer none] len) 95)).heap[w.heap.size]? = _ from heap_new (w := w) _ rfl) hB1 (by show w.heap.size < (w.alloc _).heap.size; simp)
          have b1' : Below w1.heap.size w1 (w1.alloc (.cells #[.slice a1 zs.length cap1, .slice (some ⟨w.heap.size, 0, none⟩) len len] 90)) := (Below.refl _ w1).alloc (Nat.le_refl _) _
          have HP := Lib.hid (new_done (w := w) (g := w1.heap.size) (nb := w.heap.size) (len := len) (hw1.trans (b1'.mono hz1)) (heap_new _ rfl) (heap_alloc hm1 _) ((hI1.kept b1' (Nat.le_refl _)).mono b1'.size) HL.out hl2 HA.out HE.out hz1 (Nat.le_refl _))
          clear hw1 b1' hI1 hb1 hB1 hn1 ht1 hm1 hw0
          go_wp2
          go_ret2
          exact HP.out
end Go.Proofs.YtjcmeacgfflfmaaGreat
