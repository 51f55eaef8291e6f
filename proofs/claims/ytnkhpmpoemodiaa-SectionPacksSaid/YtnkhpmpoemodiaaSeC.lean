/- Plain: what is unpacked is, packed again, the bytes that it came of. -/
import Derived.Test.YtnkhpmpoemodiaaSeB
import Derived.Test.YtnkhpmpoemodiaaDf
set_option linter.unusedVariables false
set_option linter.unusedSimpArgs false
namespace Go.Proofs.Ytnkhpmpoemodiaa.Se
open Go.RowKit

theorem rfail_ne (s : RS) (c : Nat) (hc : c ≠ 0) : (rfail s c).e ≠ 0 := by
  unfold rfail
  split
  · exact hc
  · assumption
theorem take_ok {zs : List Int} {s : RS} {n : Nat} (h : (rtake zs 0 n s).1.e = 0) : s.e = 0 ∧ zs.drop s.pos = (rtake zs 0 n s).2 ++ zs.drop (rtake zs 0 n s).1.pos ∧ (rtake zs 0 n s).2.length = n := by
  unfold rtake at h ⊢
  by_cases he : s.e = 0
  · rw [if_pos he] at h ⊢
    by_cases hs : zs.length < s.pos + 0 + n
    · rw [if_pos hs] at h
      exact absurd h (rfail_ne _ _ (by decide))
    · rw [if_neg hs]
      simp only [Nat.add_zero] at hs ⊢
      refine ⟨he, ?_, by rw [List.length_take, List.length_drop]; omega⟩
      rw [← List.drop_drop, List.take_append_drop]
  · rw [if_neg he] at h
    exact absurd h he
theorem cnt_ok {zs : List Int} {s : RS} {m : Nat} (hb : ∀ x ∈ zs, 0 ≤ x ∧ x ≤ 255) (h : (rcnt zs m s).1.e = 0) : s.e = 0 ∧ zs.drop s.pos = putF (rcnt zs m s).2 ++ zs.drop (rcnt zs m s).1.pos ∧ (rcnt zs m s).2 ≤ m := by
  unfold rcnt at h ⊢
  simp only [rstep] at h ⊢
  unfold rbnd at h ⊢
  by_cases hm : (m : Int) < 0 ∨ (m : Int) < ((rnum zs s).2.1 : Int)
  · rw [if_pos hm] at h
    exact absurd h (rfail_ne _ _ (by decide))
  · rw [if_neg hm] at h ⊢
    unfold rnum at h hm ⊢
    by_cases he : s.e = 0
    · rw [if_pos he] at h hm ⊢
      by_cases hg : (getF (zs.drop s.pos)).2.2 = 0
      · rw [if_pos hg] at h hm ⊢
        have hp := (put_getF (zs.drop s.pos) (fun x hx => hb x (List.mem_of_mem_drop hx)) (getF (zs.drop s.pos)).1 (getF (zs.drop s.pos)).2.1 (getF (zs.drop s.pos)).2.2 rfl).1 hg
        simp only at hm ⊢
        refine ⟨he, ?_, by omega⟩
        rw [hp.2.2.2.2, ← List.drop_drop, List.take_append_drop]
      · rw [if_neg hg] at h
        exact absurd h (rfail_ne _ _ hg)
    · rw [if_neg he] at h
      exact absurd h he
theorem fixed_ok {zs : List Int} {s : RS} (hb : ∀ x ∈ zs, (Lit.int .u8 x).wf = true) (h : (rfixed zs s).1.e = 0) : s.e = 0 ∧ zs.drop s.pos = fixF (rfixed zs s).2 ++ zs.drop (rfixed zs s).1.pos := by
  unfold rfixed at h ⊢
  simp only at h ⊢
  obtain ⟨h1, h2, h3⟩ := take_ok h
  refine ⟨h1, ?_⟩
  rw [if_neg (by omega)]
  have hw : ∀ x ∈ (rtake zs 0 4 s).2, (Lit.int .u8 x).wf = true := fun x hx => hb x (List.mem_of_mem_drop (by rw [h2]; exact List.mem_append_left _ hx))
  have hbd : 0 ≤ wordK (rtake zs 0 4 s).2 4 ∧ wordK (rtake zs 0 4 s).2 4 < 4294967296 := by
    revert hw h3
    generalize (rtake zs 0 4 s).2 = l
    intro h3 hw
    match l, h3 with
    | [a, b, c, d], _ =>
    have ha := bounds_u8 (hw a (by simp))
    have hb := bounds_u8 (hw b (by simp))
    have hc := bounds_u8 (hw c (by simp))
    have hd := bounds_u8 (hw d (by simp))
    simp only [wordK, List.getD_cons_zero, List.getD_cons_succ]
    omega
  obtain ⟨n, hn⟩ : ∃ n : Nat, wordK (rtake zs 0 4 s).2 4 = (n : Int) := ⟨(wordK (rtake zs 0 4 s).2 4).toNat, by omega⟩
  have hi := (word_iff _ h3 hw n (by omega)).1 hn
  rw [hn, hi]
  exact h2
def hraw (h : HeadM) : List Int := h.tag :: (putF h.size ++ fixF h.sum)
theorem head_ok {zs : List Int} {s : RS} (hb : ∀ x ∈ zs, (Lit.int .u8 x).wf = true) (h : (rdHead zs s).1.e = 0) : s.e = 0 ∧ zs.drop s.pos = hraw (rdHead zs s).2 ++ zs.drop (rdHead zs s).1.pos := by
  unfold rdHead at h ⊢
  simp only at h ⊢
  obtain ⟨h1, h2⟩ := fixed_ok hb h
  obtain ⟨h3, h4, -⟩ := cnt_ok (fun x hx => bounds_u8 (hb x hx)) h1
  obtain ⟨h5, h6, h7⟩ := take_ok (zs := zs) (s := s) (n := 1) h3
  refine ⟨h5, ?_⟩
  unfold hraw
  simp only
  have ht : (rtake zs 0 1 s).2 = [(rdTag zs s).2] := by
    unfold rdTag
    simp only
    revert h7
    generalize (rtake zs 0 1 s).2 = l
    intro h7
    match l, h7 with
    | [a], _ => rfl
  rw [h6, ht]
  have e : (rtake zs 0 1 s).1 = (rdTag zs s).1 := rfl
  rw [e, h4, h2]
  simp
theorem heads_ok {zs : List Int} {s : RS} (hb : ∀ x ∈ zs, (Lit.int .u8 x).wf = true) (n : Nat) (h : (rdHeads zs n s).1.e = 0) : s.e = 0 ∧ zs.drop s.pos = (rdHeads zs n s).2.flatMap hraw ++ zs.drop (rdHeads zs n s).1.pos := by
  induction n with
  | zero => exact ⟨h, rfl⟩
  | succ n ih =>
    unfold rdHeads at h ⊢
    simp only at h ⊢
    obtain ⟨h1, h2⟩ := head_ok hb h
    obtain ⟨h3, h4⟩ := ih h1
    refine ⟨h3, ?_⟩
    rw [h4, h2]
    simp [List.flatMap_append]
theorem bodies_ok {zs : List Int} (hs : List HeadM) : ∀ (r : RS × List SecM × Bool), (hs.foldl (bstep zs) r).1.e = 0 → (hs.foldl (bstep zs) r).2.2 = true →
    r.1.e = 0 ∧ r.2.2 = true ∧ ∃ M : List SecM, (hs.foldl (bstep zs) r).2.1 = r.2.1 ++ M ∧ hs = M.map headM ∧ zs.drop r.1.pos = M.flatMap (·.body) ++ zs.drop (hs.foldl (bstep zs) r).1.pos := by
  induction hs with
  | nil => intro r h1 h2; exact ⟨h1, h2, [], by simp, rfl, by simp⟩
  | cons x xs ih =>
    intro r h1 h2
    rw [List.foldl_cons] at h1 h2
    obtain ⟨h3, h4, M, h5, h6, h7⟩ := ih _ h1 h2
    unfold bstep at h3 h4
    simp only [Bool.and_eq_true, decide_eq_true_eq] at h3 h4
    obtain ⟨g1, g2, g3⟩ := take_ok h3
    refine ⟨g1, h4.1, ⟨x.tag, (rtake zs 0 x.size r.1).2⟩ :: M, ?_, ?_, ?_⟩
    · rw [List.foldl_cons, h5]
      simp [bstep]
    · rw [List.map_cons, ← h6]
      congr 1
      unfold headM
      simp only
      rw [g3, h4.2]
    · rw [List.foldl_cons, List.flatMap_cons, g2, List.append_assoc]
      congr 1
theorem rend_ok {zs : List Int} {s : RS} (h : (rend zs s).e = 0) : s.e = 0 ∧ zs.drop s.pos = [] := by
  unfold rend at h
  by_cases hp : s.pos < zs.length
  · rw [if_pos hp] at h
    exact absurd h (rfail_ne _ _ (by decide))
  · rw [if_neg hp] at h
    exact ⟨h, List.drop_eq_nil_of_le (by omega)⟩
theorem unpack_back (b : List Int) (hw : ∀ x ∈ b, (Lit.int .u8 x).wf = true) (h : unpE b = 0) : packE (unpL b) = 0 ∧ packI (unpL b) = b := by
  have hL : unpL b = (rdAll (unsealB b) (rtake (unsealB b) 0 4 ⟨0, 0, 0⟩).1).2.1 := by unfold unpL; rw [if_pos h]
  unfold unpE at h
  by_cases hu : unsealE b ≠ 0
  · rw [if_pos hu] at h
    exact absurd h hu
  · rw [if_neg hu] at h
    have hu0 : unsealE b = 0 := by omega
    by_cases hs : (rtake (unsealB b) 0 4 ⟨0, 0, 0⟩).2 ≠ signI
    · rw [if_pos hs] at h
      simp at h
    · rw [if_neg hs] at h
      by_cases ho : okAll (unsealB b) (rdAll (unsealB b) (rtake (unsealB b) 0 4 ⟨0, 0, 0⟩).1) = true
      · have h4 : 4 ≤ b.length := by
          unfold unsealE at hu0
          by_cases h4 : b.length < 4
          · rw [if_pos h4] at hu0; simp at hu0
          · omega
        have hbt : unsealB b = b.take (b.length - 4) := by unfold unsealB; rw [if_pos hu0]
        have hz : ∀ x ∈ unsealB b, (Lit.int .u8 x).wf = true := fun x hx => hw x (by rw [hbt] at hx; exact List.mem_of_mem_take hx)
        have hsl := (seal_iff b hw h4).2 hu0
        rw [← hbt] at hsl
        have hs' : (rtake (unsealB b) 0 4 ⟨0, 0, 0⟩).2 = signI := by simpa using hs
        unfold okAll at ho
        simp only [Bool.and_eq_true, decide_eq_true_eq] at ho
        obtain ⟨⟨ha, hr⟩, he⟩ := ho
        generalize hs1 : (rtake (unsealB b) 0 4 ⟨0, 0, 0⟩).1 = s1 at *
        obtain ⟨e1, e2⟩ := rend_ok he
        unfold rdAll at ha hr e1 e2 hL
        unfold rdBodies at ha hr e1 e2 hL
        obtain ⟨b1, -, M, b2, b3, b4⟩ := bodies_ok _ _ e1 ha
        simp only [List.nil_append] at b1 b2 b4
        obtain ⟨c1, c2⟩ := heads_ok hz _ b1
        obtain ⟨d1, d2, d3⟩ := cnt_ok (fun x hx => bounds_u8 (hz x hx)) c1
        have ht := take_ok (zs := unsealB b) (s := ⟨0, 0, 0⟩) (n := 4) (by rw [hs1]; exact d1)
        have hn : (rcnt (unsealB b) 255 s1).2 = M.length := by
          have := congrArg List.length b3
          rw [rdHeads_length, List.length_map] at this
          exact this
        have hM : M.length ≤ 255 := by omega
        have hall : unsealB b = innerI M := by
          have t2 := ht.2.1
          rw [hs1, hs'] at t2
          simp only [List.drop_zero] at t2
          have hh : (M.map headM).flatMap hraw = M.flatMap headI := by rw [List.flatMap_map]; rfl
          rw [t2, d2, c2, b3, b4, e2, hh, hn]
          simp [innerI]
        rw [hL, b2]
        rw [b2] at hr
        have hp : packE M = 0 := by
          unfold packE
          rw [if_neg (by omega), if_pos hr]
        refine ⟨hp, ?_⟩
        unfold packI
        rw [if_pos hp, ← hall]
        exact hsl
      · rw [if_neg ho] at h
        simp at h
end Go.Proofs.Ytnkhpmpoemodiaa.Se
