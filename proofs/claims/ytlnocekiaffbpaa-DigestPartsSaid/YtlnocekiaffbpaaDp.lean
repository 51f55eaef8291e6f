/- The walk of DigestParts. -/
import Derived.Test.YtlnocekiaffbpaaDl
import Derived.Test.YtlnocekiaffbpaaAp
import Derived.Deep.RegionHeld3
import Derived.Deep.RegionLaw
import Derived.Deep.AppendLies
set_option linter.unusedVariables false
namespace Go.Proofs.Ytlnocekiaffbpaa
open Go.RowKit

theorem and_1k (n : Int) : bits .and .i64 n 1023 = n % 1024 := by
  have h511 : (BitVec.ofInt 64 1023).toNat = 2 ^ 10 - 1 := by decide
  have key : (BitVec.ofInt 64 n &&& BitVec.ofInt 64 1023).toNat = (n % ((2 ^ 64 : Nat) : Int)).toNat % 2 ^ 10 := by
    rw [BitVec.toNat_and, BitVec.toNat_ofInt, h511, Nat.and_two_pow_sub_one_eq_mod]
  show IntKind.i64.wrap ((BitVec.ofInt 64 n &&& BitVec.ofInt 64 1023).toNat : Nat) = n % 1024
  rw [key, IntKind.wrap_i64]
  omega
def mixI (l m : List Int) : List Int := List.zipWith (fun a b => ((a.toNat ^^^ b.toNat : Nat) : Int)) l m
theorem mixI_length {l m : List Int} (h : l.length = m.length) : (mixI l m).length = l.length := by unfold mixI; rw [List.length_zipWith]; omega
theorem mixI_nats (l m : List Int) : natsL (mixI l m) = List.zipWith (fun a b => a ^^^ b) (natsL l) (natsL m) := by
  unfold natsL mixI
  rw [List.map_zipWith, List.zipWith_map]
  rfl
theorem mixI_getD {l m : List Int} {k : Nat} (h : l.length = m.length) (hk : k < l.length) : (mixI l m).getD k 0 = (((l.getD k 0).toNat ^^^ (m.getD k 0).toNat : Nat) : Int) := by
  unfold mixI
  simp only [List.getD]
  rw [List.getElem?_eq_getElem (by rw [List.length_zipWith]; omega), List.getElem_zipWith, List.getElem?_eq_getElem hk, List.getElem?_eq_getElem (show k < m.length by omega)]
  rfl
theorem mixI_wf {l m : List Int} (hl : ∀ c ∈ l, (Lit.int .u8 c).wf = true) (hm : ∀ c ∈ m, (Lit.int .u8 c).wf = true) : ∀ c ∈ mixI l m, (Lit.int .u8 c).wf = true := by
  intro c hc
  unfold mixI at hc
  obtain ⟨i, hi, hic⟩ := List.mem_iff_getElem.1 hc
  rw [List.length_zipWith] at hi
  rw [List.getElem_zipWith] at hic
  subst hic
  have h1 := bounds_u8 (hl _ (List.getElem_mem (show i < l.length by omega)))
  have h2 := bounds_u8 (hm _ (List.getElem_mem (show i < m.length by omega)))
  have h3 : (l[i].toNat ^^^ m[i].toNat) < 2 ^ 8 := Nat.xor_lt_two_pow (by omega) (by omega)
  exact WalkArith.wf_u8 (by omega)

set_option maxRecDepth 100000 in
set_option maxHeartbeats 2000000 in
theorem walk_DigestParts (a0 : Int) (a1 : Option Addr) (len1 cap1 : Nat) (z1 : List Int) (a2 : Option Addr) (len2 cap2 : Nat) (z2 : List Int) (a3 : Int) (w : World) (w0 : (Lit.int .u32 a0).wf = true) (w1 : IsRow .u8 w a1 len1 cap1 z1) (w2 : IsRow .u8 w a2 len2 cap2 z2) (w3 : (Lit.int .i64 a3).wf = true) :
    Calls Try.prog 10 #[.int .u32 a0, .slice a1 len1 cap1, .slice a2 len2 cap2, .int .i64 a3] w fun e w' => e = .returned (.bool true) ∧ Below w.heap.size w w' := by
  have h0 := bounds_u32 w0
  obtain ⟨p, rfl⟩ : ∃ p : Nat, a0 = (p : Int) := ⟨a0.toNat, by omega⟩
  have hp : p < 4294967296 := by omega
  have hcap1 := w1.cap
  have hcap2 := w2.cap
  have hnil1 : a1 = none → len1 = 0 ∧ cap1 = 0 := by intro h; subst h; exact w1.nil
  obtain ⟨b1, o1, hi1⟩ := w1.ints
  obtain ⟨b2, o2, hi2⟩ := w2.ints
  have hsm1 := hi1.small
  have hsm2 := hi2.small
  unfold maxLen at hsm1 hsm2
  clear w0 w1 w2 w3 h0
  have hl1 := hi1.length
  have hl2 := hi2.length
  generalize z1.take len1 = l at *
  generalize z2.take len2 = m at *
  by_cases h300 : 300 < len1
  · clear hi1 hi2 hl1 hl2 hnil1
    go_enter Try.func10, Try.ntmps10
    go_wp2_with fail
    refine (dalive_any _).mono ?_
    rintro e w2 ⟨rfl, hB⟩
    have HB2 := Lib.hid hB
    clear hB
    go_wp2
    go_ret
    exact ⟨rfl, HB2.out⟩
  by_cases hne : ¬ len2 = len1
  · have hne2 : ((len2 : Int) == (len1 : Int)) = false := by simp; omega
    have hne3 : ((len2 : Int) != (len1 : Int)) = true := by simp; omega
    clear hi1 hi2 hl1 hl2 hnil1 hne
    go_enter Try.func10, Try.ntmps10
    go_wp2_with fail
    refine (dalive_any _).mono ?_
    rintro e w2 ⟨rfl, hB⟩
    have HB2 := Lib.hid hB
    clear hB
    go_wp2
    go_ret
    exact ⟨rfl, HB2.out⟩
  obtain rfl : len2 = len1 := Classical.not_not.1 hne
  clear hne
  have H1 := Lib.hid (And.intro hi1 hi2)
  have HL := Lib.hid (And.intro hl1 hl2)
  have HML : Hid ((mixI l m).length = len2) := Lib.hid (by rw [mixI_length (by omega), hl1])
  have HMK := Lib.hid (fun W => make_any p W hp)
  obtain ⟨cut, hcut⟩ : ∃ cut : Nat, a3 % 1024 % ((len2 : Int) + 1) = (cut : Int) := ⟨(a3 % 1024 % ((len2 : Int) + 1)).toNat, by have := Int.emod_nonneg (a3 % 1024) (show ((len2 : Int) + 1) ≠ 0 by omega); omega⟩
  have hcut2 : cut ≤ len2 := by have := Int.emod_lt_of_pos (a3 % 1024) (show (0 : Int) < (len2 : Int) + 1 by omega); omega
  have hand := and_1k a3
  obtain ⟨i0, hi, hz0, hz1, hz2⟩ := info_parts Try.infoU8
  have HI := Lib.hid hi
  have HZ0 := Lib.hid hz0
  have HZ1 := Lib.hid hz1
  have HZ2 := Lib.hid hz2
  clear hi hz0 hz1 hz2 hi1 hi2 hl1 hl2
  go_enter Try.func10, Try.ntmps10
  go_wp2_with fail
  refine (dalive_any _).mono ?_
  rintro e w2 ⟨rfl, hB⟩
  have HB2 := Lib.hid hB
  clear hB
  go_wp2_with fail
  refine (HMK.out _).mono ?_
  rintro e w3 ⟨rfl, ht, hB⟩
  have HB3 := Lib.hid (HB2.out.trans (hB.mono HB2.out.size))
  have HT := Lib.hid ht
  clear hB ht HB2
  generalize w2.heap.size = T at *
  have HMADE : Hid ((w3.alloc (.cells #[] 5)).ownsRow w3.heap.size 5 1 (.slice (some ⟨w3.heap.size, 0, none⟩) 0 0) 0 []) := Lib.hid (World.ownsRow_made w3 #[] 0 (Nat.le_refl _) (Nat.zero_le _) rfl)
  go_wp2
  rw [hcut]
  clear hcut hand
  go_loopw [10, 35] (fun v i wr => ∃ (vv : Value) (k : Nat), vv = v ∧ k ≤ len2 ∧ i = .int .i64 k ∧ Hid (wr.ownsRow w3.heap.size 5 1 vv k (ivals .u8 ((mixI l m).take k))) ∧ Hid (Below w3.heap.size w3 wr)) (fun _ i _ => len2 - (intOf i).toNat)
  case atStart => exact ⟨_, 0, rfl, Nat.zero_le _, rfl, HMADE, (Below.refl _ _).alloc (Nat.le_refl _) _⟩
  case round =>
    obtain ⟨vv, k, rfl, hk, rfl, hown, hB⟩ := hrel
    clear HMADE
    have HBW : Hid (Below w.heap.size w wr) := Lib.hid (HB3.out.trans (hB.out.mono HB3.out.size))
    by_cases hlt : k < len2
    · have hk1 : k < l.length := by rw [HL.out.1]; exact hlt
      have hk2 : k < m.length := by rw [HL.out.2]; exact hlt
      have hc1 := (H1.out.1.kept HBW.out (Nat.le_refl _)).cell k hlt
      have hc2 := (H1.out.2.kept HBW.out (Nat.le_refl _)).cell k hlt
      have hbd1 := bounds_u8 (H1.out.1.fits (l.getD k 0) (by simp [List.getD, hk1]))
      have hbd2 := bounds_u8 (H1.out.2.fits (m.getD k 0) (by simp [List.getD, hk2]))
      obtain rfl : a1 = some ⟨b1, o1, none⟩ := H1.out.1.addr.resolve_left (by omega)
      obtain rfl : a2 = some ⟨b2, o2, none⟩ := H1.out.2.addr.resolve_left (by omega)
      obtain ⟨x, hx⟩ : ∃ x : Nat, l.getD k 0 = (x : Int) := ⟨(l.getD k 0).toNat, by omega⟩
      obtain ⟨y, hy⟩ : ∃ y : Nat, m.getD k 0 = (y : Int) := ⟨(m.getD k 0).toNat, by omega⟩
      have HTK : Hid (ivals .u8 ((mixI l m).take (k + 1)) = ivals .u8 ((mixI l m).take k) ++ [.int .u8 ((x ^^^ y : Nat) : Int)]) := Lib.hid (by
        rw [ivals_take .u8 (mixI l m) k (by rw [HML.out]; exact hlt), mixI_getD (by rw [HL.out.1, HL.out.2]) hk1, hx, hy, Int.toNat_natCast, Int.toNat_natCast])
      rw [hx] at hc1
      rw [hy] at hc2
      have hx8 := xor_u8 x y (by omega) (by omega)
      have hsz := hB.out.size
      clear hx hy hbd1 hbd2 hk1 hk2
      generalize x ^^^ y = xy at *
      go_wp2
      go_region_law ((refine step_append_lies _ (by rfl) _ _ 28 (by rfl) w3.heap.size 5 i0 (.int .u8 0) 1 1 Try.underlying28 HI.out HZ0.out HZ1.out HZ2.out rfl (by decide) vv k _ (by rfl) (by first | exact (hown.out.alloc _).drew | exact hown.out.drew.alloc _ | exact hown.out.alloc _) ⟨wr.heap.size, 0, none⟩ 1 1 [.int .u8 (xy : Int)] (by rfl) (by rfl) (by first | exact cell_one _ _ _ | exact cell_one wr _ _) (one_val rfl) (by decide) (by unfold maxLen; omega) (by omega) (by simp; omega) (wr.heap.size + 1) (by simp) ?_; intro gg cap5 w5 hown5 hgrow5 hat5 hlt5))
      all_goals
        go_wp2
        go_roundw
        case rel =>
          refine ⟨_, k + 1, rfl, by omega, by go_num, Lib.hid (by rw [HTK.out]; exact hown5), Lib.hid ?_⟩
          refine (Below.grown (by first | exact (hB.out.alloc hsz _).drew | exact hB.out.drew.alloc hsz _ | exact hB.out.alloc hsz _) hgrow5 (by simp; omega) (fun g e => (hown.out.lt g e).1))
        case measure => simp [intOf]; omega
    · obtain rfl : k = len2 := by omega
      have hmx : (mixI l m).take k = mixI l m := List.take_of_length_le (by rw [HML.out]; exact Nat.le_refl _)
      have hown2 := hown.out
      rw [hmx] at hown2
      obtain ⟨am, capm, bm, rfl, -, -, -, HX⟩ := Gath.ints (.inr hown2) HML.out (mixI_wf H1.out.1.fits H1.out.2.fits)
      have HTW := Lib.hid (HT.out.kept hB.out)
      obtain ⟨Z, hZ⟩ : ∃ Z, Z = madeCells #[Value.int .u8 0] k := ⟨_, rfl⟩
      have HMX := Lib.hid HX
      have HBEL : Hid (∀ W, Below wr.heap.size wr W → Below w.heap.size w W ∧ TabAt W T p) := Lib.hid (fun W hb => ⟨HBW.out.trans (hb.mono HBW.out.size), HTW.out.kept hb⟩)
      have HCS (v : Nat) (a : Option Addr) (b o n c : Nat) (zs : List Int) (hv : moreF p 0 zs = v) (hi : ∀ W, Below wr.heap.size wr W → IntsAt .u8 wr.heap.size W a b o n zs) : Hid (∀ W, Below wr.heap.size wr W → Calls Try.prog 41 #[.pointer (some ⟨T, 0, none⟩), .slice a n c] W fun e w' => e = .returned (.int .u32 v) ∧ W = w') := Lib.hid (fun W hb => by
        rw [← hv]
        exact sum_any p T hp zs _ a b o n c W (HBEL.out W hb).2 (hi W hb))
      have hia : ∀ W, Below wr.heap.size wr W → IntsAt .u8 wr.heap.size W a1 b1 o1 k l := fun W hb => (H1.out.1.kept (HBEL.out W hb).1 (Nat.le_refl _)).mono HBW.out.size
      have hib : ∀ W, Below wr.heap.size wr W → IntsAt .u8 wr.heap.size W a2 b2 o2 k m := fun W hb => (H1.out.2.kept (HBEL.out W hb).1 (Nat.le_refl _)).mono HBW.out.size
      obtain ⟨sA, hsA⟩ : ∃ v, moreF p 0 (l.take cut) = v := ⟨_, rfl⟩
      obtain ⟨SA, hSA⟩ : ∃ v, moreF p 0 l = v := ⟨_, rfl⟩
      obtain ⟨SB, hSB⟩ : ∃ v, moreF p 0 m = v := ⟨_, rfl⟩
      obtain ⟨SX, hSX⟩ : ∃ v, moreF p 0 (mixI l m) = v := ⟨_, rfl⟩
      obtain ⟨SZ, hSZ⟩ : ∃ v, moreF p 0 (List.replicate k 0) = v := ⟨_, rfl⟩
      have C1 := HCS sA a1 b1 o1 cut cap1 (l.take cut) hsA (fun W hb => (hia W hb).take cut hcut2)
      have C2 := HCS SA a1 b1 o1 k cap1 l hSA hia
      have C3 := HCS SX am bm 0 k capm (mixI l m) hSX (fun W hb => HMX.out.kept hb (Nat.le_refl _))
      have C4 := HCS SB a2 b2 o2 k cap2 m hSB hib
      have C6 := HCS 0 none 0 0 0 0 [] (more_nil p) (fun W hb => ⟨.inl rfl, rfl, Nat.zero_le _, .inl rfl, fun i hi => absurd hi (Nat.not_lt_zero _), fun n hn => by simp at hn⟩)
      have C5 : Hid (∀ W X, Below wr.heap.size wr W → W.heap[X]? = some (.cells Z 5 (0, 0)) → Calls Try.prog 41 #[.pointer (some ⟨T, 0, none⟩), .slice (some ⟨X, 0, none⟩) k k] W fun e w' => e = .returned (.int .u32 SZ) ∧ W = w') := Lib.hid (fun W X hb hX => by
        rw [← hSZ]
        refine sum_any p T hp (List.replicate k 0) W.heap.size (some ⟨X, 0, none⟩) X 0 k k W (HBEL.out W hb).2 ⟨.inr rfl, List.length_replicate, hsm1, .inr (heap_lt hX), fun i hi => ?_, fun n hn => by rw [(List.mem_replicate.1 hn).2]; decide⟩
        rw [Nat.zero_add]
        refine heap_cell hX ?_
        rw [hZ, ← Array.getElem?_toList, toList_madeCells_one, List.getElem?_replicate, if_pos hi]
        simp [List.getD, hi])
      have CM : Hid (∀ W a' l' c', Below wr.heap.size wr W → l' = k - cut → (l' = 0 ∨ a' = some ⟨b1, o1 + cut, none⟩) → Calls Try.prog 43 #[.pointer (some ⟨T, 0, none⟩), .int .u32 sA, .slice a' l' c'] W fun e w' => e = .returned (.int .u32 SA) ∧ W = w') := Lib.hid (fun W a' l' c' hb hl' ha => by
        subst hl'
        have h := more_any p T hp sA (by rw [← hsA]; exact moreF_lt _ _ _) (l.drop cut) wr.heap.size a' b1 (o1 + cut) (k - cut) c' W (HBEL.out W hb).2 ((hia W hb).drop cut hcut2 a' ha)
        rw [← hsA, more_parts p hp, List.take_append_drop, hSA] at h
        rw [← hsA]
        exact h)
      have hx1 := xor_u32 SA SB (by rw [← hSA]; exact moreF_lt _ _ _) (by rw [← hSB]; exact moreF_lt _ _ _)
      have hx2 : bits .xor .u32 ((SA ^^^ SB : Nat) : Int) (SZ : Int) = (SX : Int) := by
        have h := more_mixed p hp l m (mixI l m) H1.out.1.fits H1.out.2.fits (mixI_wf H1.out.1.fits H1.out.2.fits) (by rw [HL.out.1, HL.out.2]) (mixI_nats l m)
        rw [HL.out.1, hSA, hSB, hSZ, hSX] at h
        rw [xor_u32 _ _ (by rw [← hSA, ← hSB]; exact Nat.xor_lt_two_pow (n := 32) (moreF_lt _ _ _) (moreF_lt _ _ _)) (by rw [← hSZ]; exact moreF_lt _ _ _), h]
      generalize SA ^^^ SB = SAB at *
      have hmk : ∀ W, Sem.run Try.prog (Instr.makeSlice 28 (.int .i64 k) (.int .i64 k)) W = .ok (.slice (some ⟨W.heap.size, 0, none⟩) k k) (W.alloc (.cells Z 5)) := fun W => by
        rw [hZ]
        exact run_make_row' 28 5 (.int .u8 0) 1 Try.underlying28 Try.infoU8 rfl .i64 .i64 k (by omega) (by omega) W
      have hcase : cap1 = cut ∨ ∃ x, a1 = some x ∧ ¬ cap1 = cut ∧ Hid (k - cut = 0 ∨ some (x.add cut) = some ⟨b1, o1 + cut, none⟩) := by
        by_cases hkc : cap1 = cut
        · exact .inl hkc
        · cases a1 with
          | none => have := hnil1 rfl; omega
          | some x =>
            refine .inr ⟨x, rfl, hkc, ?_⟩
            by_cases h0 : k = 0
            · exact .inl (by omega)
            · have hx : some x = some ⟨b1, o1, none⟩ := H1.out.1.addr.resolve_left h0
              cases hx
              exact .inr (by rw [addr_add])
      have HSS : Hid (cut = k → sA = SA) := Lib.hid (fun e => by rw [← hsA, ← hSA, List.take_of_length_le (by rw [HL.out.1]; omega)])
      have HEND : Hid (∀ W, Below wr.heap.size wr W → Below w.heap.size w W) := Lib.hid (fun W hb => (HBEL.out W hb).1)
      clear HCS hia hib hsA hSA hSB hSX hSZ hZ hmx hown2 HX hown HMK HBEL HTW HT hnil1 HMX HBW hB HB3
      rcases hcase with hkc | ⟨x, rfl, hkc, HXA⟩
      · obtain rfl : cut = k := by omega
        obtain rfl : cap1 = cut := hkc
        obtain rfl : SA = sA := (HSS.out rfl).symm
        have CM0 := Lib.hid (fun W (hb : Below wr.heap.size wr W) => CM.out W a1 0 0 hb (Nat.sub_self _).symm (.inl rfl))
        clear CM
        go_wp2
        go_region_held3 (fun w9 => Below wr.heap.size wr w9) (first | exact Below.refl _ _ | exact (Below.refl _ _).drew | exact (Below.refl _ _).alloc (Nat.le_refl _) _ | exact (Below.refl _ _).drew.alloc (Nat.le_refl _) _ | exact ((Below.refl _ _).alloc (Nat.le_refl _) _).drew) (first
          | ((go_at_call 41); (with_reducible refine (C1.out _ ?_).mono ?_); (next => first | exact Below.refl _ _ | exact (Below.refl _ _).drew | exact (Below.refl _ _).alloc (Nat.le_refl _) _ | exact (Below.refl _ _).drew.alloc (Nat.le_refl _) _ | exact ((Below.refl _ _).alloc (Nat.le_refl _) _).drew); rintro e w9 ⟨rfl, rfl⟩)
          | ((go_at_call 41); (with_reducible refine (C2.out _ ?_).mono ?_); (next => first | exact Below.refl _ _ | exact (Below.refl _ _).drew | exact (Below.refl _ _).alloc (Nat.le_refl _) _ | exact (Below.refl _ _).drew.alloc (Nat.le_refl _) _ | exact ((Below.refl _ _).alloc (Nat.le_refl _) _).drew); rintro e w9 ⟨rfl, rfl⟩)
          | ((go_at_call 41); (with_reducible refine (C3.out _ ?_).mono ?_); (next => first | exact Below.refl _ _ | exact (Below.refl _ _).drew | exact (Below.refl _ _).alloc (Nat.le_refl _) _ | exact (Below.refl _ _).drew.alloc (Nat.le_refl _) _ | exact ((Below.refl _ _).alloc (Nat.le_refl _) _).drew); rintro e w9 ⟨rfl, rfl⟩)
          | ((go_at_call 41); (with_reducible refine (C4.out _ ?_).mono ?_); (next => first | exact Below.refl _ _ | exact (Below.refl _ _).drew | exact (Below.refl _ _).alloc (Nat.le_refl _) _ | exact (Below.refl _ _).drew.alloc (Nat.le_refl _) _ | exact ((Below.refl _ _).alloc (Nat.le_refl _) _).drew); rintro e w9 ⟨rfl, rfl⟩)
          | ((go_at_call 41); (with_reducible refine (C5.out _ _ ?_ ?_).mono ?_); (next => first | exact Below.refl _ _ | exact (Below.refl _ _).drew | exact (Below.refl _ _).alloc (Nat.le_refl _) _ | exact (Below.refl _ _).drew.alloc (Nat.le_refl _) _ | exact ((Below.refl _ _).alloc (Nat.le_refl _) _).drew); (next => first | exact heap_new _ rfl | exact heap_new _ (by simp)); rintro e w9 ⟨rfl, rfl⟩)
          | ((go_at_call 41); (with_reducible refine (C6.out _ ?_).mono ?_); (next => first | exact Below.refl _ _ | exact (Below.refl _ _).drew | exact (Below.refl _ _).alloc (Nat.le_refl _) _ | exact (Below.refl _ _).drew.alloc (Nat.le_refl _) _ | exact ((Below.refl _ _).alloc (Nat.le_refl _) _).drew); rintro e w9 ⟨rfl, rfl⟩)
          | ((go_at_call 43); (with_reducible refine (CM0.out _ ?_).mono ?_); (next => first | exact Below.refl _ _ | exact (Below.refl _ _).drew | exact (Below.refl _ _).alloc (Nat.le_refl _) _ | exact (Below.refl _ _).drew.alloc (Nat.le_refl _) _ | exact ((Below.refl _ _).alloc (Nat.le_refl _) _).drew); rintro e w9 ⟨rfl, rfl⟩))
        all_goals
          go_wp2
          go_ret
          exact ⟨rfl, HEND.out _ (by first | exact Below.refl _ _ | exact (Below.refl _ _).drew | exact (Below.refl _ _).alloc (Nat.le_refl _) _ | exact (Below.refl _ _).drew.alloc (Nat.le_refl _) _ | exact ((Below.refl _ _).alloc (Nat.le_refl _) _).drew)⟩
      · have hcc : cut ≤ cap1 := by omega
        have CM1 := Lib.hid (fun W (hb : Below wr.heap.size wr W) => CM.out W (some (x.add cut)) (k - cut) (cap1 - cut) hb rfl HXA.out)
        clear CM
        go_wp2
        go_region_held3 (fun w9 => Below wr.heap.size wr w9) (first | exact Below.refl _ _ | exact (Below.refl _ _).drew | exact (Below.refl _ _).alloc (Nat.le_refl _) _ | exact (Below.refl _ _).drew.alloc (Nat.le_refl _) _ | exact ((Below.refl _ _).alloc (Nat.le_refl _) _).drew) (first
          | ((go_at_call 41); (with_reducible refine (C1.out _ ?_).mono ?_); (next => first | exact Below.refl _ _ | exact (Below.refl _ _).drew | exact (Below.refl _ _).alloc (Nat.le_refl _) _ | exact (Below.refl _ _).drew.alloc (Nat.le_refl _) _ | exact ((Below.refl _ _).alloc (Nat.le_refl _) _).drew); rintro e w9 ⟨rfl, rfl⟩)
          | ((go_at_call 41); (with_reducible refine (C2.out _ ?_).mono ?_); (next => first | exact Below.refl _ _ | exact (Below.refl _ _).drew | exact (Below.refl _ _).alloc (Nat.le_refl _) _ | exact (Below.refl _ _).drew.alloc (Nat.le_refl _) _ | exact ((Below.refl _ _).alloc (Nat.le_refl _) _).drew); rintro e w9 ⟨rfl, rfl⟩)
          | ((go_at_call 41); (with_reducible refine (C3.out _ ?_).mono ?_); (next => first | exact Below.refl _ _ | exact (Below.refl _ _).drew | exact (Below.refl _ _).alloc (Nat.le_refl _) _ | exact (Below.refl _ _).drew.alloc (Nat.le_refl _) _ | exact ((Below.refl _ _).alloc (Nat.le_refl _) _).drew); rintro e w9 ⟨rfl, rfl⟩)
          | ((go_at_call 41); (with_reducible refine (C4.out _ ?_).mono ?_); (next => first | exact Below.refl _ _ | exact (Below.refl _ _).drew | exact (Below.refl _ _).alloc (Nat.le_refl _) _ | exact (Below.refl _ _).drew.alloc (Nat.le_refl _) _ | exact ((Below.refl _ _).alloc (Nat.le_refl _) _).drew); rintro e w9 ⟨rfl, rfl⟩)
          | ((go_at_call 41); (with_reducible refine (C5.out _ _ ?_ ?_).mono ?_); (next => first | exact Below.refl _ _ | exact (Below.refl _ _).drew | exact (Below.refl _ _).alloc (Nat.le_refl _) _ | exact (Below.refl _ _).drew.alloc (Nat.le_refl _) _ | exact ((Below.refl _ _).alloc (Nat.le_refl _) _).drew); (next => first | exact heap_new _ rfl | exact heap_new _ (by simp)); rintro e w9 ⟨rfl, rfl⟩)
          | ((go_at_call 41); (with_reducible refine (C6.out _ ?_).mono ?_); (next => first | exact Below.refl _ _ | exact (Below.refl _ _).drew | exact (Below.refl _ _).alloc (Nat.le_refl _) _ | exact (Below.refl _ _).drew.alloc (Nat.le_refl _) _ | exact ((Below.refl _ _).alloc (Nat.le_refl _) _).drew); rintro e w9 ⟨rfl, rfl⟩)
          | ((go_at_call 43); (with_reducible refine (CM1.out _ ?_).mono ?_); (next => first | exact Below.refl _ _ | exact (Below.refl _ _).drew | exact (Below.refl _ _).alloc (Nat.le_refl _) _ | exact (Below.refl _ _).drew.alloc (Nat.le_refl _) _ | exact ((Below.refl _ _).alloc (Nat.le_refl _) _).drew); rintro e w9 ⟨rfl, rfl⟩))
        all_goals
          go_wp2
          go_ret
          exact ⟨rfl, HEND.out _ (by first | exact Below.refl _ _ | exact (Below.refl _ _).drew | exact (Below.refl _ _).alloc (Nat.le_refl _) _ | exact (Below.refl _ _).drew.alloc (Nat.le_refl _) _ | exact ((Below.refl _ _).alloc (Nat.le_refl _) _).drew)⟩
end Go.Proofs.Ytlnocekiaffbpaa
