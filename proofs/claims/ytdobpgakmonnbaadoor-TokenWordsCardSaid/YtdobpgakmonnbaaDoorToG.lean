/- Contracts: first. -/
import Derived.Test.YtdobpgakmonnbaaDoorToF
set_option linter.unusedVariables false
set_option linter.unusedSectionVars false
set_option linter.unusedSimpArgs false
namespace Go.Proofs.YtdobpgakmonnbaaDoor.Tok
open Go.RowKit

def FirstPost (s : ByteArray) (e : Ending) : Prop :=
  match firstV s.data.toList with
  | .error x => e = .returned (.tuple #[wfTok 0 0 ⟨#[]⟩ 0, .int .i64 x])
  | .ok t => e = .returned (.tuple #[wfTok t.kind 0 (s.extract 0 t.len) t.n, .int .i64 0])
theorem sign_at (c : UInt8) : decide (0 ≤ Lib.indexByte [123, 125, 61, 59] c) = sgn c := by
  unfold sgn
  have e1 : (c.toNat = 123) = (c = 123) := by rw [eq_iff_iff]; exact ⟨fun h => UInt8.toNat_inj.1 h, fun h => by rw [h]; rfl⟩
  have e2 : (c.toNat = 125) = (c = 125) := by rw [eq_iff_iff]; exact ⟨fun h => UInt8.toNat_inj.1 h, fun h => by rw [h]; rfl⟩
  have e3 : (c.toNat = 61) = (c = 61) := by rw [eq_iff_iff]; exact ⟨fun h => UInt8.toNat_inj.1 h, fun h => by rw [h]; rfl⟩
  have e4 : (c.toNat = 59) = (c = 59) := by rw [eq_iff_iff]; exact ⟨fun h => UInt8.toNat_inj.1 h, fun h => by rw [h]; rfl⟩
  simp only [e1, e2, e3, e4]
  by_cases h1 : c = 123
  · subst h1; rfl
  · by_cases h2 : c = 125
    · subst h2; rfl
    · by_cases h3 : c = 61
      · subst h3; rfl
      · by_cases h4 : c = 59
        · subst h4; rfl
        · have n1 : ¬ (123 : UInt8) = c := fun h => h1 h.symm
          have n2 : ¬ (125 : UInt8) = c := fun h => h2 h.symm
          have n3 : ¬ (61 : UInt8) = c := fun h => h3 h.symm
          have n4 : ¬ (59 : UInt8) = c := fun h => h4 h.symm
          simp [Lib.indexByte, h1, h2, h3, h4, n1, n2, n3, n4]
theorem num_kind {l : List UInt8} {t : TokV} (h : numV l = .ok t) : t.kind = 2 := by
  unfold numV at h
  simp only at h
  split at h
  · cases h
  · split at h
    · cases h
    · cases h; rfl
set_option maxHeartbeats 2000000 in
theorem first_any (s : ByteArray) (hs : s.size ≤ 281474976710656) (w : World) (hv : VarR w) (hw2 : 2 < w.heap.size) : Calls Tryd.prog 16 #[.string s] w fun e w' => FirstPost s e ∧ Below w.heap.size w w' := by
  have HX := Lib.hid (heap_new (w := w) (.cells #[.int .i64 0, .int .i64 0, .string ⟨#[]⟩, .int .i64 0] 32) rfl)
  have HA : Hid (Below w.heap.size w (w.alloc (.cells #[.int .i64 0, .int .i64 0, .string ⟨#[]⟩, .int .i64 0] 32))) := Lib.hid ((Below.refl _ w).alloc (Nat.le_refl _) _)
  by_cases h0 : s.size = 0
  · have hse : s = ⟨#[]⟩ := ByteArray.ext (Array.eq_empty_of_size_eq_zero h0)
    subst hse
    have g0 : (ByteArray.mk #[]).toList.isEmpty = true := by rw [ByteArray.toList_eq]; rfl
    go_enter Tryd.func16, Tryd.ntmps16
    go_wp2
    refine bodyPost_ret (tok_ret rfl HX.out rfl rfl) rfl ?_
    exact ⟨rfl, HA.out⟩
  · have hne : 0 < s.size := by omega
    have hi0 : (0 : Int) < (s.size : Int) := by omega
    obtain ⟨c, r, hl⟩ : ∃ c r, s.data.toList = c :: r := by
      cases h : s.data.toList with
      | nil =>
        have h1 : s.data.toList.length = s.size := by simp
        rw [h] at h1
        exact absurd h1.symm h0
      | cons c r => exact ⟨c, r, rfl⟩
    have g0 : s.toList.isEmpty = false := by rw [ByteArray.toList_eq, hl]; rfl
    have hc : s[0] = c := by
      have h1 := get_list s hne
      rw [hl] at h1
      simpa using h1.symm
    have HF : Hid (firstV s.data.toList = if ltr c then .ok ⟨1, runL wrd s.data.toList, 0⟩ else if sgn c then .ok ⟨3, 1, 0⟩ else numV s.data.toList) := Lib.hid (by rw [hl]; rfl)
    have HL := Lib.hid (fun w => letter_any c w)
    clear hl
    go_enter Tryd.func16, Tryd.ntmps16
    cases hlt : ltr c with
    | true =>
      rw [hlt] at HL HF
      have hrl := runL_le wrd s.data.toList
      rw [show s.data.toList.length = s.size by simp] at hrl
      have HR := Lib.hid (fun w => run_any wrd (gf := 25) inWord_any (fun _ _ => rfl) s (by unfold maxLen; omega) w)
      obtain ⟨k, hk⟩ : ∃ k, runL wrd s.data.toList = k := ⟨_, rfl⟩
      rw [hk] at HR hrl HF
      have HE : Hid (firstV s.data.toList = .ok ⟨1, k, 0⟩) := Lib.hid (by rw [HF.out]; simp)
      clear HF
      have HP := Lib.hid (fun w => piece_any s hs hrl w)
      clear hlt hk
      go_wp2_with fail
      refine (HL.out _).mono ?_
      rintro e w1 ⟨rfl, rfl⟩
      go_wp2_with fail
      refine (HR.out _).mono ?_
      rintro e w1 ⟨rfl, rfl⟩
      go_wp2_with fail
      refine (HP.out _).mono ?_
      rintro e w2 ⟨rfl, hb⟩
      have hx2 := heap_below HX.out hb (by simp)
      have HX2 := Lib.hid hx2
      have HB2 := Lib.hid (HA.out.trans (hb.mono HA.out.size))
      have c0 := heap_cell hx2 (i := 0) rfl
      have c1 := heap_cell hx2 (i := 1) rfl
      have c2 := heap_cell hx2 (i := 2) rfl
      have c3 := heap_cell hx2 (i := 3) rfl
      have f0 := heap_frozen hx2 0
      have f1 := heap_frozen hx2 1
      have f2 := heap_frozen hx2 2
      have f3 := heap_frozen hx2 3
      simp only [List.getElem_toArray, List.getElem_cons_zero, List.getElem_cons_succ] at c0 c1 c2 c3
      obtain ⟨pc, hpc⟩ : ∃ x, s.extract 0 k = x := ⟨_, rfl⟩
      have HPc := Lib.hid hpc
      rw [hpc]
      clear hb hx2 HP HR HL hpc
      go_wp2
      have hx4 := heap_set (heap_set (heap_set (heap_set HX2.out 0 (.int .i64 1)) 1 (.int .i64 0)) 2 (.string pc)) 3 (.int .i64 0)
      refine bodyPost_ret (tok_ret rfl hx4 rfl rfl) rfl ?_
      exact ⟨by unfold FirstPost; rw [HE.out]; show Ending.returned _ = Ending.returned (.tuple #[wfTok 1 0 (s.extract 0 k) 0, .int .i64 0]); rw [HPc.out], (((HB2.out.setCell (p := ⟨w.heap.size, 0, none⟩) (Nat.le_refl _) _).setCell (p := ⟨w.heap.size, 1, none⟩) (Nat.le_refl _) _).setCell (p := ⟨w.heap.size, 2, none⟩) (Nat.le_refl _) _).setCell (p := ⟨w.heap.size, 3, none⟩) (Nat.le_refl _) _⟩
    | false =>
      rw [hlt] at HL HF
      clear hlt
      have HI := Lib.hid (Tryd.strings_IndexByte ⟨#[123, 125, 61, 59]⟩ (c.toNat : Int))
      rw [show (⟨#[123, 125, 61, 59]⟩ : ByteArray).data.toList = [123, 125, 61, 59] from rfl, show ((c.toNat : Int)).toNat.toUInt8 = c by simp] at HI
      obtain ⟨ix, hix⟩ : ∃ x, Lib.indexByte [123, 125, 61, 59] c = x := ⟨_, rfl⟩
      have hsg := sign_at c
      rw [hix] at HI hsg
      clear hix
      go_wp2_with fail
      refine (HL.out _).mono ?_
      rintro e w1 ⟨rfl, rfl⟩
      go_wp2_with fail
      refine (HI.out _).mono ?_
      rintro e w1 ⟨rfl, rfl⟩
      cases hg : sgn c with
      | true =>
        rw [hg] at hsg HF
        have HP := Lib.hid (fun w => piece_any s hs (n := 1) (by omega) w)
        clear HI HL hg
        go_wp2_with fail
        refine (HP.out _).mono ?_
        rintro e w2 ⟨rfl, hb⟩
        have hx2 := heap_below HX.out hb (by simp)
        have HX2 := Lib.hid hx2
        have HB2 := Lib.hid (HA.out.trans (hb.mono HA.out.size))
        have c0 := heap_cell hx2 (i := 0) rfl
        have c1 := heap_cell hx2 (i := 1) rfl
        have c2 := heap_cell hx2 (i := 2) rfl
        have c3 := heap_cell hx2 (i := 3) rfl
        have f0 := heap_frozen hx2 0
        have f1 := heap_frozen hx2 1
        have f2 := heap_frozen hx2 2
        have f3 := heap_frozen hx2 3
        simp only [List.getElem_toArray, List.getElem_cons_zero, List.getElem_cons_succ] at c0 c1 c2 c3
        obtain ⟨pc, hpc⟩ : ∃ x, s.extract 0 1 = x := ⟨_, rfl⟩
        have HPc := Lib.hid hpc
        have HE : Hid (firstV s.data.toList = .ok ⟨3, 1, 0⟩) := Lib.hid (by rw [HF.out]; simp)
        rw [hpc]
        clear hb hx2 HP hpc HF
        go_wp2
        have hx4 := heap_set (heap_set (heap_set (heap_set HX2.out 0 (.int .i64 3)) 1 (.int .i64 0)) 2 (.string pc)) 3 (.int .i64 0)
        refine bodyPost_ret (tok_ret rfl hx4 rfl rfl) rfl ?_
        exact ⟨by unfold FirstPost; rw [HE.out]; show Ending.returned _ = Ending.returned (.tuple #[wfTok 3 0 (s.extract 0 1) 0, .int .i64 0]); rw [HPc.out], (((HB2.out.setCell (p := ⟨w.heap.size, 0, none⟩) (Nat.le_refl _) _).setCell (p := ⟨w.heap.size, 1, none⟩) (Nat.le_refl _) _).setCell (p := ⟨w.heap.size, 2, none⟩) (Nat.le_refl _) _).setCell (p := ⟨w.heap.size, 3, none⟩) (Nat.le_refl _) _⟩
      | false =>
        rw [hg] at hsg HF
        have HE : Hid (firstV s.data.toList = numV s.data.toList) := Lib.hid (by rw [HF.out]; simp)
        have hv1 := hv.on hw2 HA.out
        have HN := Lib.hid (number_any s hs _ hv1 (by have := HA.out.size; omega))
        clear HI HL hg HF hv hv1
        go_wp2_with fail
        refine HN.out.mono ?_
        rintro e w2 ⟨hp, hb⟩
        have hx2 := heap_below HX.out hb (by simp)
        have HX2 := Lib.hid hx2
        have HB2 := Lib.hid (HA.out.trans (hb.mono HA.out.size))
        have c0 := heap_cell hx2 (i := 0) rfl
        have c1 := heap_cell hx2 (i := 1) rfl
        have c2 := heap_cell hx2 (i := 2) rfl
        have c3 := heap_cell hx2 (i := 3) rfl
        have f0 := heap_frozen hx2 0
        have f1 := heap_frozen hx2 1
        have f2 := heap_frozen hx2 2
        have f3 := heap_frozen hx2 3
        simp only [List.getElem_toArray, List.getElem_cons_zero, List.getElem_cons_succ] at c0 c1 c2 c3
        clear hb hx2 HN
        unfold NumPost at hp
        cases hnv : numV s.data.toList with
        | error x =>
          rw [hnv] at hp HE
          have hp2 : e = .returned (.tuple #[wfTok 0 0 ⟨#[]⟩ 0, .int .i64 x]) := hp
          subst hp2
          unfold wfTok
          clear hnv hp
          go_wp2
          have hx4 := heap_set (heap_set (heap_set (heap_set HX2.out 0 (.int .i64 0)) 1 (.int .i64 0)) 2 (.string ⟨#[]⟩)) 3 (.int .i64 0)
          refine bodyPost_ret (tok_ret rfl hx4 rfl rfl) rfl ?_
          exact ⟨by unfold FirstPost; rw [HE.out], (((HB2.out.setCell (p := ⟨w.heap.size, 0, none⟩) (Nat.le_refl _) _).setCell (p := ⟨w.heap.size, 1, none⟩) (Nat.le_refl _) _).setCell (p := ⟨w.heap.size, 2, none⟩) (Nat.le_refl _) _).setCell (p := ⟨w.heap.size, 3, none⟩) (Nat.le_refl _) _⟩
        | ok t =>
          rw [hnv] at hp HE
          have hp2 : e = .returned (.tuple #[wfTok 2 0 (s.extract 0 t.len) t.n, .int .i64 0]) := hp
          subst hp2
          unfold wfTok
          have hk2 := num_kind hnv
          obtain ⟨pc, hpc⟩ : ∃ x, s.extract 0 t.len = x := ⟨_, rfl⟩
          have HPc := Lib.hid hpc
          have HK := Lib.hid hk2
          obtain ⟨tn, htn⟩ : ∃ x, t.n = x := ⟨_, rfl⟩
          have HTn := Lib.hid htn
          rw [hpc, htn]
          clear hnv hp hpc hk2 htn
          go_wp2
          have hx4 := heap_set (heap_set (heap_set (heap_set HX2.out 0 (.int .i64 2)) 1 (.int .i64 0)) 2 (.string pc)) 3 (.int .i64 tn)
          refine bodyPost_ret (tok_ret rfl hx4 rfl rfl) rfl ?_
          exact ⟨by unfold FirstPost; rw [HE.out]; show Ending.returned _ = Ending.returned (.tuple #[wfTok (t.kind : Int) 0 (s.extract 0 t.len) t.n, .int .i64 0]); rw [HPc.out, HK.out, HTn.out]; rfl, (((HB2.out.setCell (p := ⟨w.heap.size, 0, none⟩) (Nat.le_refl _) _).setCell (p := ⟨w.heap.size, 1, none⟩) (Nat.le_refl _) _).setCell (p := ⟨w.heap.size, 2, none⟩) (Nat.le_refl _) _).setCell (p := ⟨w.heap.size, 3, none⟩) (Nat.le_refl _) _⟩
end Go.Proofs.YtdobpgakmonnbaaDoor.Tok
