/- Contract: are fields read as they were written? -/
import Derived.Test.YtlnocekiaffbpaaBm
import Derived.Test.YtlnocekiaffbpaaOq
import Derived.Test.YtlnocekiaffbpaaFt
import Derived.Deep.RegionWith
import Derived.Deep.RegionHeld3
set_option linter.unusedVariables false
namespace Go.Proofs.Ytlnocekiaffbpaa
open Go.RowKit

theorem i64_and65535 (n : Int) : bits .and .i64 n 65535 = n % 65536 := by
  have h511 : (BitVec.ofInt 64 65535).toNat = 2 ^ 16 - 1 := by decide
  have key : (BitVec.ofInt 64 n &&& BitVec.ofInt 64 65535).toNat = (n % ((2 ^ 64 : Nat) : Int)).toNat % 2 ^ 16 := by
    rw [BitVec.toNat_and, BitVec.toNat_ofInt, h511, Nat.and_two_pow_sub_one_eq_mod]
  show IntKind.i64.wrap ((BitVec.ofInt 64 n &&& BitVec.ofInt 64 65535).toNat : Nat) = n % 65536
  rw [key, IntKind.wrap_i64]
  omega
def ReadPost (w : World) (R : Nat) (zs : List Int) (r : RS × Bool) (e : Ending) (w' : World) : Prop := e = .returned (.bool r.2) ∧ RIs w' R zs r.1 ∧ w.grownBy w' (some R)
theorem rdAll_step (zs : List Int) (ops : List OpV) (k : Nat) (o : OpV) (s : RS) (h : ops[k]? = some o) :
    rdAll zs (ops.drop k) s = if (rdOp zs o s).2 = true ∧ (rdOp zs o s).1.e = 0 then rdAll zs (ops.drop (k + 1)) (rdOp zs o s).1 else ((rdOp zs o s).1, false) := by
  obtain ⟨hk, hx⟩ := List.getElem?_eq_some_iff.1 h
  rw [List.drop_eq_getElem_cons hk, hx]
  rfl

set_option maxRecDepth 100000 in
set_option maxHeartbeats 4000000 in
theorem read_any (w : World) (R : Nat) (zs : List Int) (s : RS) (a : Option Addr) (b off len cap : Nat) (ops : List OpV) (hi : OpsAt w.heap.size w a b off len ops) (hR : len = 0 ∨ b ≠ R) (hf : fewF ops) (h : RIs w R zs s) :
    Calls Try.prog 27 #[.pointer (some ⟨R, 0, none⟩), .slice a len cap] w (ReadPost w R zs (rdAll zs ops s)) := by
  have hs : len ≤ 40 := by have := hi.length; have := hf.2; omega
  have HH := Lib.hid h
  have H := Lib.hid (And.intro hi hR)
  have HFEW := Lib.hid hf
  have HALL : Hid (rdAll zs ops s = rdAll zs (ops.drop 0) s) := Lib.hid (by rw [List.drop_zero])
  clear h hi hR hf
  generalize hfin : rdAll zs ops s = fin at *
  clear hfin
  go_enter Try.func27, Try.ntmps27
  go_wp2
  go_loopw [10] (fun i wr => ∃ (k : Nat) (s' : RS), k ≤ len ∧ i = .int .i64 k ∧ Hid (fin = rdAll zs (ops.drop k) s') ∧ Hid (RIs wr R zs s') ∧ Hid (w.grownBy wr (some R))) (fun i _ => len - (intOf i).toNat)
  case atStart => exact ⟨0, s, Nat.zero_le _, rfl, HALL, HH, Lib.hid (grown_refl _ _)⟩
  case round =>
    obtain ⟨k, s', hk, rfl, hfin, hr, hg⟩ := hrel
    clear HALL HH
    by_cases hlt : k < len
    · obtain ⟨o, ho, hmem⟩ := nth_op H.out.1.length hlt
      have HO := Lib.hid ho
      obtain ⟨c0, c1, c2⟩ := (H.out.1.grown hg.out H.out.2).cell k o ho
      have hss := HFEW.out.1 o hmem
      obtain ⟨-, ⟨hn0, hn1⟩, -⟩ := H.out.1.ok o hmem
      have hblk : b < wr.heap.size := by have := H.out.1.below; have := hg.out.size; omega
      obtain rfl : a = some ⟨b, off, none⟩ := H.out.1.addr.resolve_left (by omega)
      have HST := Lib.hid (rdAll_step zs ops k o s' ho)
      obtain ⟨s2, sm, hrd⟩ : ∃ s2 sm, rdOp zs o s' = (s2, sm) := ⟨_, _, rfl⟩
      have HFIN : Hid (fin = if sm = true ∧ s2.e = 0 then rdAll zs (ops.drop (k + 1)) s2 else (s2, false)) := Lib.hid (by rw [hfin.out, HST.out, hrd])
      have HRD := Lib.hid hrd
      clear ho hmem hrd HST hfin
      obtain ⟨kind, n, st⟩ := o
      simp only at c0 c1 c2 hss hn0 hn1
      obtain ⟨op, hop⟩ : ∃ op, op = Obj.cells #[.int .i64 kind, .int .i64 n, .string st] 30 := ⟨_, rfl⟩
      have HOP := Lib.hid hop
      have hlR : R < wr.heap.size := by obtain ⟨_, _, _, _, hra⟩ := hr.out; exact heap_lt hra.box
      have HRA : Hid (∀ W, Below (wr.alloc op).heap.size (wr.alloc op) W → RIs W R zs s') := Lib.hid (fun W hb => (hr.out.stay ((Below.refl _ _).alloc (Nat.le_refl _) op)).stay hb)
      have HGA : Hid (∀ W W', Below (wr.alloc op).heap.size (wr.alloc op) W → W.grownBy W' (some R) → w.grownBy W' (some R) ∧ W'.heap[wr.heap.size]? = some op) := Lib.hid (fun W W' hb hg' => ⟨((hg.out.trans (World.grownBy_alloc wr op _)).trans (grown_below hb _)).trans hg', heap_kept (heap_below (heap_new op rfl) hb (by simp)) hg' (fun e => by have := Option.some.inj e; omega)⟩)
      obtain ⟨se, hse⟩ : ∃ se, s2.e = se := ⟨_, rfl⟩
      have HFAULT : Hid (∀ W, RIs W R zs s2 → Calls Try.prog 29 #[.pointer (some ⟨R, 0, none⟩)] W fun e w' => e = .returned (.agg #[.int .i64 se, .int .i64 s2.fa]) ∧ Below W.heap.size W w') := Lib.hid (fun W hr => by
        have := rfault_any W R zs s2 hr
        unfold FaultPost at this
        rw [hse] at this
        exact this)
      rw [hse] at HFIN
      have HEND0 : Hid (sm = false → fin = (s2, false)) := Lib.hid (fun e => by have := HFIN.out; rw [if_neg (by rw [e]; simp)] at this; exact this)
      have HEND1 : Hid (se ≠ 0 → fin = (s2, false)) := Lib.hid (fun e => by have := HFIN.out; rw [if_neg (fun h => e h.2)] at this; exact this)
      have HEND2 : Hid (sm = true → se = 0 → fin = rdAll zs (ops.drop (k + 1)) s2) := Lib.hid (fun e1 e2 => by have := HFIN.out; rw [if_pos ⟨e1, e2⟩] at this; exact this)
      clear hse hr hg hop HFIN
      by_cases k0 : kind = 0
      · have hb0 : (kind == 0) = true := by simp [k0]
        have HV : Hid ((rfixed zs s').1 = s2 ∧ decide ((rfixed zs s').2 = n % 4294967296) = sm) := Lib.hid (by
          have := HRD.out
          unfold rdOp at this
          rw [if_pos k0] at this
          exact ⟨congrArg Prod.fst this, congrArg Prod.snd this⟩)
        obtain ⟨v, hv⟩ : ∃ v, (rfixed zs s').2 = v := ⟨_, rfl⟩
        have HC : Hid (∀ W, Below (wr.alloc op).heap.size (wr.alloc op) W → Calls Try.prog 33 #[.pointer (some ⟨R, 0, none⟩)] W (IntPost .u32 W R zs s2 v)) := Lib.hid (fun W hb => by
          have := rfixed_any W R zs s' (HRA.out W hb)
          rw [HV.out.1, hv] at this
          exact this)
        have hv2 : (v == IntKind.u32.wrap n) = sm := by
          have := HV.out.2
          rw [hv] at this
          rw [IntKind.wrap_u32, ← this]; rfl
        clear hv k0 HV HRD HRA
        rw [HOP.out] at HC HGA
        cases sm with
        | false =>
          have HE := Lib.hid (HEND0.out rfl)
          clear HEND0 HEND1 HEND2
          go_wp2
          go_region_with ((go_at_call 33; refine (HC.out _ (by first | exact Below.refl _ _ | exact (Below.refl _ _).drew)).mono ?_; rintro e w2 ⟨rfl, hr2, hg2⟩; obtain ⟨hg3, hbx⟩ := HGA.out _ _ (by first | exact Below.refl _ _ | exact (Below.refl _ _).drew) hg2; have d1 := heap_cell hbx (i := 1) rfl; have HR2 := Lib.hid hr2; have HG2 := Lib.hid hg3; clear hr2 hg2 hg3 hbx))
          all_goals
            go_wp2
            go_ret
            rw [HE.out]
            exact ⟨rfl, HR2.out, HG2.out⟩
        | true =>
          by_cases hse0 : se = 0
          · have HE := Lib.hid (HEND2.out rfl hse0)
            have hse1 : ((se : Int) == 0) = true := by simp [hse0]
            clear HEND0 HEND1 HEND2 hse0
            go_wp2
            go_region_with ((go_at_call 33; refine (HC.out _ (by first | exact Below.refl _ _ | exact (Below.refl _ _).drew)).mono ?_; rintro e w2 ⟨rfl, hr2, hg2⟩; obtain ⟨hg3, hbx⟩ := HGA.out _ _ (by first | exact Below.refl _ _ | exact (Below.refl _ _).drew) hg2; have d1 := heap_cell hbx (i := 1) rfl; have HR2 := Lib.hid hr2; have HG2 := Lib.hid hg3; clear hr2 hg2 hg3 hbx))
            all_goals
              go_wp2_with fail
              refine (HFAULT.out _ HR2.out).mono ?_
              rintro e w3 ⟨rfl, hB3⟩
              have HR3 := Lib.hid (HR2.out.stay hB3)
              have HG3 := Lib.hid (HG2.out.trans (grown_below hB3 _))
              clear hB3 d1
              have hfl := run_faultE se s2.fa
              go_wp2
              go_roundw
              case rel => exact ⟨k + 1, s2, by omega, by go_num, HE, HR3, HG3⟩
              case measure => simp [intOf]; omega
          · have HE := Lib.hid (HEND1.out hse0)
            have hse1 : ((se : Int) == 0) = false := by simp; omega
            clear HEND0 HEND1 HEND2 hse0
            go_wp2
            go_region_with ((go_at_call 33; refine (HC.out _ (by first | exact Below.refl _ _ | exact (Below.refl _ _).drew)).mono ?_; rintro e w2 ⟨rfl, hr2, hg2⟩; obtain ⟨hg3, hbx⟩ := HGA.out _ _ (by first | exact Below.refl _ _ | exact (Below.refl _ _).drew) hg2; have d1 := heap_cell hbx (i := 1) rfl; have HR2 := Lib.hid hr2; have HG2 := Lib.hid hg3; clear hr2 hg2 hg3 hbx))
            all_goals
              go_wp2_with fail
              refine (HFAULT.out _ HR2.out).mono ?_
              rintro e w3 ⟨rfl, hB3⟩
              have HR3 := Lib.hid (HR2.out.stay hB3)
              have HG3 := Lib.hid (HG2.out.trans (grown_below hB3 _))
              clear hB3 d1
              have hfl := run_faultE se s2.fa
              go_wp2
              go_ret
              rw [HE.out]
              exact ⟨rfl, HR3.out, HG3.out⟩
      have hb0 : (kind == 0) = false := by simp [k0]
      by_cases k1 : kind = 1
      · have hb1 : (kind == 1) = true := by simp [k1]
        have HV : Hid (rstep (rbnd zs 65535 s').1 (rbnd zs 65535 s').2.2 = s2 ∧ decide (((rbnd zs 65535 s').2.1 : Int) = n % 65536) = sm) := Lib.hid (by
          have := HRD.out
          unfold rdOp at this
          rw [if_neg k0, if_pos k1] at this
          exact ⟨congrArg Prod.fst this, congrArg Prod.snd this⟩)
        obtain ⟨v, hv⟩ : ∃ v, (rbnd zs 65535 s').2.1 = v := ⟨_, rfl⟩
        have HC : Hid (∀ W, Below (wr.alloc op).heap.size (wr.alloc op) W → Calls Try.prog 34 #[.pointer (some ⟨R, 0, none⟩), .int .i64 65535] W (IntPost .i64 W R zs s2 v)) := Lib.hid (fun W hb => by
          have := rcount_any W R zs s' 65535 65535 (by decide) (by decide) (by decide) (HRA.out W hb)
          rw [show ((65535 : Nat) : Int) = 65535 from rfl, HV.out.1, hv] at this
          exact this)
        have hand : bits .and .i64 n 65535 = n % 65536 := i64_and65535 n
        have hv2 : ((v : Int) == n % 65536) = sm := by
          have := HV.out.2
          rw [hv] at this
          rw [← this]; rfl
        clear hv k0 k1 HV HRD HRA
        rw [HOP.out] at HC HGA
        cases sm with
        | false =>
          have HE := Lib.hid (HEND0.out rfl)
          clear HEND0 HEND1 HEND2
          go_wp2
          go_region_with ((go_at_call 34; refine (HC.out _ (by first | exact Below.refl _ _ | exact (Below.refl _ _).drew)).mono ?_; rintro e w2 ⟨rfl, hr2, hg2⟩; obtain ⟨hg3, hbx⟩ := HGA.out _ _ (by first | exact Below.refl _ _ | exact (Below.refl _ _).drew) hg2; have d1 := heap_cell hbx (i := 1) rfl; have HR2 := Lib.hid hr2; have HG2 := Lib.hid hg3; clear hr2 hg2 hg3 hbx))
          all_goals
            go_wp2
            go_ret
            rw [HE.out]
            exact ⟨rfl, HR2.out, HG2.out⟩
        | true =>
          by_cases hse0 : se = 0
          · have HE := Lib.hid (HEND2.out rfl hse0)
            have hse1 : ((se : Int) == 0) = true := by simp [hse0]
            clear HEND0 HEND1 HEND2 hse0
            go_wp2
            go_region_with ((go_at_call 34; refine (HC.out _ (by first | exact Below.refl _ _ | exact (Below.refl _ _).drew)).mono ?_; rintro e w2 ⟨rfl, hr2, hg2⟩; obtain ⟨hg3, hbx⟩ := HGA.out _ _ (by first | exact Below.refl _ _ | exact (Below.refl _ _).drew) hg2; have d1 := heap_cell hbx (i := 1) rfl; have HR2 := Lib.hid hr2; have HG2 := Lib.hid hg3; clear hr2 hg2 hg3 hbx))
            all_goals
              go_wp2_with fail
              refine (HFAULT.out _ HR2.out).mono ?_
              rintro e w3 ⟨rfl, hB3⟩
              have HR3 := Lib.hid (HR2.out.stay hB3)
              have HG3 := Lib.hid (HG2.out.trans (grown_below hB3 _))
              clear hB3 d1
              have hfl := run_faultE se s2.fa
              go_wp2
              go_roundw
              case rel => exact ⟨k + 1, s2, by omega, by go_num, HE, HR3, HG3⟩
              case measure => simp [intOf]; omega
          · have HE := Lib.hid (HEND1.out hse0)
            have hse1 : ((se : Int) == 0) = false := by simp; omega
            clear HEND0 HEND1 HEND2 hse0
            go_wp2
            go_region_with ((go_at_call 34; refine (HC.out _ (by first | exact Below.refl _ _ | exact (Below.refl _ _).drew)).mono ?_; rintro e w2 ⟨rfl, hr2, hg2⟩; obtain ⟨hg3, hbx⟩ := HGA.out _ _ (by first | exact Below.refl _ _ | exact (Below.refl _ _).drew) hg2; have d1 := heap_cell hbx (i := 1) rfl; have HR2 := Lib.hid hr2; have HG2 := Lib.hid hg3; clear hr2 hg2 hg3 hbx))
            all_goals
              go_wp2_with fail
              refine (HFAULT.out _ HR2.out).mono ?_
              rintro e w3 ⟨rfl, hB3⟩
              have HR3 := Lib.hid (HR2.out.stay hB3)
              have HG3 := Lib.hid (HG2.out.trans (grown_below hB3 _))
              clear hB3 d1
              have hfl := run_faultE se s2.fa
              go_wp2
              go_ret
              rw [HE.out]
              exact ⟨rfl, HR3.out, HG3.out⟩
      have hb1 : (kind == 1) = false := by simp [k1]
      by_cases k2 : kind = 2
      · have hb2 : (kind == 2) = true := by simp [k2]
        have HV : Hid (rstep (rnum zs s').1 (rnum zs s').2.2 = s2 ∧ decide (unfoldF (rnum zs s').2.1 = n) = sm) := Lib.hid (by
          have := HRD.out
          unfold rdOp at this
          rw [if_neg k0, if_neg k1, if_pos k2] at this
          exact ⟨congrArg Prod.fst this, congrArg Prod.snd this⟩)
        obtain ⟨v, hv⟩ : ∃ v, unfoldF (rnum zs s').2.1 = v := ⟨_, rfl⟩
        have HC : Hid (∀ W, Below (wr.alloc op).heap.size (wr.alloc op) W → Calls Try.prog 35 #[.pointer (some ⟨R, 0, none⟩)] W (IntPost .i64 W R zs s2 v)) := Lib.hid (fun W hb => by
          have := rnumb_any W R zs s' (HRA.out W hb)
          rw [HV.out.1, hv] at this
          exact this)
        have hv2 : (v == n) = sm := by
          have := HV.out.2
          rw [hv] at this
          rw [← this]; rfl
        clear hv k0 k1 k2 HV HRD HRA
        rw [HOP.out] at HC HGA
        cases sm with
        | false =>
          have HE := Lib.hid (HEND0.out rfl)
          clear HEND0 HEND1 HEND2
          go_wp2
          go_region_with ((go_at_call 35; refine (HC.out _ (by first | exact Below.refl _ _ | exact (Below.refl _ _).drew)).mono ?_; rintro e w2 ⟨rfl, hr2, hg2⟩; obtain ⟨hg3, hbx⟩ := HGA.out _ _ (by first | exact Below.refl _ _ | exact (Below.refl _ _).drew) hg2; have d1 := heap_cell hbx (i := 1) rfl; have HR2 := Lib.hid hr2; have HG2 := Lib.hid hg3; clear hr2 hg2 hg3 hbx))
          all_goals
            go_wp2
            go_ret
            rw [HE.out]
            exact ⟨rfl, HR2.out, HG2.out⟩
        | true =>
          by_cases hse0 : se = 0
          · have HE := Lib.hid (HEND2.out rfl hse0)
            have hse1 : ((se : Int) == 0) = true := by simp [hse0]
            clear HEND0 HEND1 HEND2 hse0
            go_wp2
            go_region_with ((go_at_call 35; refine (HC.out _ (by first | exact Below.refl _ _ | exact (Below.refl _ _).drew)).mono ?_; rintro e w2 ⟨rfl, hr2, hg2⟩; obtain ⟨hg3, hbx⟩ := HGA.out _ _ (by first | exact Below.refl _ _ | exact (Below.refl _ _).drew) hg2; have d1 := heap_cell hbx (i := 1) rfl; have HR2 := Lib.hid hr2; have HG2 := Lib.hid hg3; clear hr2 hg2 hg3 hbx))
            all_goals
              go_wp2_with fail
              refine (HFAULT.out _ HR2.out).mono ?_
              rintro e w3 ⟨rfl, hB3⟩
              have HR3 := Lib.hid (HR2.out.stay hB3)
              have HG3 := Lib.hid (HG2.out.trans (grown_below hB3 _))
              clear hB3 d1
              have hfl := run_faultE se s2.fa
              go_wp2
              go_roundw
              case rel => exact ⟨k + 1, s2, by omega, by go_num, HE, HR3, HG3⟩
              case measure => simp [intOf]; omega
          · have HE := Lib.hid (HEND1.out hse0)
            have hse1 : ((se : Int) == 0) = false := by simp; omega
            clear HEND0 HEND1 HEND2 hse0
            go_wp2
            go_region_with ((go_at_call 35; refine (HC.out _ (by first | exact Below.refl _ _ | exact (Below.refl _ _).drew)).mono ?_; rintro e w2 ⟨rfl, hr2, hg2⟩; obtain ⟨hg3, hbx⟩ := HGA.out _ _ (by first | exact Below.refl _ _ | exact (Below.refl _ _).drew) hg2; have d1 := heap_cell hbx (i := 1) rfl; have HR2 := Lib.hid hr2; have HG2 := Lib.hid hg3; clear hr2 hg2 hg3 hbx))
            all_goals
              go_wp2_with fail
              refine (HFAULT.out _ HR2.out).mono ?_
              rintro e w3 ⟨rfl, hB3⟩
              have HR3 := Lib.hid (HR2.out.stay hB3)
              have HG3 := Lib.hid (HG2.out.trans (grown_below hB3 _))
              clear hB3 d1
              have hfl := run_faultE se s2.fa
              go_wp2
              go_ret
              rw [HE.out]
              exact ⟨rfl, HR3.out, HG3.out⟩
      have hb2 : (kind == 2) = false := by simp [k2]
      have HV : Hid ((rtext zs 60 s').1 = s2 ∧ decide (strOfNums (rtext zs 60 s').2 = st) = sm) := Lib.hid (by
        have := HRD.out
        unfold rdOp at this
        rw [if_neg k0, if_neg k1, if_neg k2] at this
        exact ⟨congrArg Prod.fst this, congrArg Prod.snd this⟩)
      obtain ⟨v, hv⟩ : ∃ v, strOfNums (rtext zs 60 s').2 = v := ⟨_, rfl⟩
      have HC : Hid (∀ W, Below (wr.alloc op).heap.size (wr.alloc op) W → Calls Try.prog 36 #[.pointer (some ⟨R, 0, none⟩), .int .i64 60] W (fun e w' => e = .returned (.string v) ∧ RIs w' R zs s2 ∧ W.grownBy w' (some R))) := Lib.hid (fun W hb => by
        have := rtext_any W R zs s' 60 (by decide) (by decide) (HRA.out W hb)
        unfold TextPost at this
        rw [HV.out.1, hv] at this
        exact this)
      have hv2 : (v.toList == st.toList) = sm := by
        have := HV.out.2
        rw [hv] at this
        rw [str_eq]; exact this
      clear hv k0 k1 k2 HV HRD HRA
      rw [HOP.out] at HC HGA
      cases sm with
      | false =>
        have HE := Lib.hid (HEND0.out rfl)
        clear HEND0 HEND1 HEND2
        go_wp2
        go_region_with ((go_at_call 36; refine (HC.out _ (by first | exact Below.refl _ _ | exact (Below.refl _ _).drew)).mono ?_; rintro e w2 ⟨rfl, hr2, hg2⟩; obtain ⟨hg3, hbx⟩ := HGA.out _ _ (by first | exact Below.refl _ _ | exact (Below.refl _ _).drew) hg2; have d1 := heap_cell hbx (i := 2) rfl; have HR2 := Lib.hid hr2; have HG2 := Lib.hid hg3; clear hr2 hg2 hg3 hbx))
        all_goals
          go_wp2
          go_ret
          rw [HE.out]
          exact ⟨rfl, HR2.out, HG2.out⟩
      | true =>
        by_cases hse0 : se = 0
        · have HE := Lib.hid (HEND2.out rfl hse0)
          have hse1 : ((se : Int) == 0) = true := by simp [hse0]
          clear HEND0 HEND1 HEND2 hse0
          go_wp2
          go_region_with ((go_at_call 36; refine (HC.out _ (by first | exact Below.refl _ _ | exact (Below.refl _ _).drew)).mono ?_; rintro e w2 ⟨rfl, hr2, hg2⟩; obtain ⟨hg3, hbx⟩ := HGA.out _ _ (by first | exact Below.refl _ _ | exact (Below.refl _ _).drew) hg2; have d1 := heap_cell hbx (i := 2) rfl; have HR2 := Lib.hid hr2; have HG2 := Lib.hid hg3; clear hr2 hg2 hg3 hbx))
          all_goals
            go_wp2_with fail
            refine (HFAULT.out _ HR2.out).mono ?_
            rintro e w3 ⟨rfl, hB3⟩
            have HR3 := Lib.hid (HR2.out.stay hB3)
            have HG3 := Lib.hid (HG2.out.trans (grown_below hB3 _))
            clear hB3 d1
            have hfl := run_faultE se s2.fa
            go_wp2
            go_roundw
            case rel => exact ⟨k + 1, s2, by omega, by go_num, HE, HR3, HG3⟩
            case measure => simp [intOf]; omega
        · have HE := Lib.hid (HEND1.out hse0)
          have hse1 : ((se : Int) == 0) = false := by simp; omega
          clear HEND0 HEND1 HEND2 hse0
          go_wp2
          go_region_with ((go_at_call 36; refine (HC.out _ (by first | exact Below.refl _ _ | exact (Below.refl _ _).drew)).mono ?_; rintro e w2 ⟨rfl, hr2, hg2⟩; obtain ⟨hg3, hbx⟩ := HGA.out _ _ (by first | exact Below.refl _ _ | exact (Below.refl _ _).drew) hg2; have d1 := heap_cell hbx (i := 2) rfl; have HR2 := Lib.hid hr2; have HG2 := Lib.hid hg3; clear hr2 hg2 hg3 hbx))
          all_goals
            go_wp2_with fail
            refine (HFAULT.out _ HR2.out).mono ?_
            rintro e w3 ⟨rfl, hB3⟩
            have HR3 := Lib.hid (HR2.out.stay hB3)
            have HG3 := Lib.hid (HG2.out.trans (grown_below hB3 _))
            clear hB3 d1
            have hfl := run_faultE se s2.fa
            go_wp2
            go_ret
            rw [HE.out]
            exact ⟨rfl, HR3.out, HG3.out⟩
    · obtain rfl : k = len := by omega
      have HE : Hid (fin = (s', true)) := Lib.hid (by rw [hfin.out, List.drop_of_length_le (by rw [H.out.1.length]; exact Nat.le_refl _)]; rfl)
      clear hfin
      go_wp2
      go_ret
      rw [HE.out]
      exact ⟨rfl, hr.out, hg.out⟩
end Go.Proofs.Ytlnocekiaffbpaa
