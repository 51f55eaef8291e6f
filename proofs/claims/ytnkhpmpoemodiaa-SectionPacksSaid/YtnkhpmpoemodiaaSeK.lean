/- Contract: section.read. -/
import Derived.Test.YtnkhpmpoemodiaaSeJ
import Derived.Test.YtnkhpmpoemodiaaSeF
set_option linter.unusedVariables false
set_option linter.unusedSectionVars false
set_option linter.unusedSimpArgs false
namespace Go.Proofs.Ytnkhpmpoemodiaa.Se
open Go.RowKit Go.Shelf

def zHead : Array Value := #[.int .u8 0, .int .i64 0, .int .u32 0]
theorem Try.infoHead : (Try.prog.info? 155).map (fun i => (i.zero, i.size, i.bytes)) = some (some (.agg zHead), 3, 24) := by kernel_rfl
def zSecP : Array Value := #[.int .u8 0, .slice none 0 0]
theorem Try.infoSecP : (Try.prog.info? 70).map (fun i => (i.zero, i.size, i.bytes)) = some (some (.agg zSecP), 2, 32) := by kernel_rfl
theorem madeH (w : World) (n : Nat) (hn : n ≤ 20000) :
    (Instr.makeSlice 152 (.int .i64 (n : Int)) (.int .i64 (n : Int))).run Try.prog w = .ok (.slice (some ⟨w.heap.size, 0, none⟩) n n) (w.alloc (.cells (madeCells zHead (n * 3)) 155)) := by
  obtain ⟨i0, hi, hz0, hz1, hz2⟩ := info_parts Try.infoHead
  have h := run_make (P := Try.prog) w 152 155 i0 _ Try.underlying152 hi hz0 .i64 .i64 n n (by omega) (Int.le_refl _) (by rw [hz2]; omega) (by omega)
  rw [hz1, show (Value.agg zHead).cells = zHead from rfl] at h
  simpa using h
theorem madeS (w : World) (n : Nat) (hn : n ≤ 20000) :
    (Instr.makeSlice 61 (.int .i64 (n : Int)) (.int .i64 (n : Int))).run Try.prog w = .ok (.slice (some ⟨w.heap.size, 0, none⟩) n n) (w.alloc (.cells (madeCells zSecP (n * 2)) 70)) := by
  obtain ⟨i0, hi, hz0, hz1, hz2⟩ := info_parts Try.infoSecP
  have h := run_make (P := Try.prog) w 61 70 i0 _ Try.underlying61 hi hz0 .i64 .i64 n n (by omega) (Int.le_refl _) (by rw [hz2]; omega) (by omega)
  rw [hz1, show (Value.agg zSecP).cells = zSecP from rfl] at h
  simpa using h
theorem rcnt_le (zs : List Int) (m : Nat) (s : RS) : (rcnt zs m s).2 ≤ m := by
  unfold rcnt rbnd
  split
  · exact Nat.zero_le _
  · rename_i h
    simp only at h ⊢
    omega
/-- Heads in a row. -/
structure HdR (cur : Array Value) (hs : List HeadM) (n : Nat) : Prop where
  size : cur.size = n * 3
  cell : ∀ j h, hs[j]? = some h → cur[j * 3]? = some (.int .u8 h.tag) ∧ cur[j * 3 + 1]? = some (.int .i64 h.size) ∧ cur[j * 3 + 2]? = some (.int .u32 h.sum)
theorem HdR.step {cur : Array Value} {hs : List HeadM} {n k : Nat} {h : HeadM} (H : HdR cur hs n) (hl : hs.length = k) (hk : k < n) :
    HdR (((cur.setIfInBounds (k * 3) (.int .u8 h.tag)).setIfInBounds (k * 3 + 1) (.int .i64 h.size)).setIfInBounds (k * 3 + 2) (.int .u32 h.sum)) (hs ++ [h]) n := by
  refine ⟨by simpa using H.size, fun j y hy => ?_⟩
  have hs1 := H.size
  rcases Nat.lt_trichotomy j k with hj | hj | hj
  · rw [List.getElem?_append_left (by omega)] at hy
    obtain ⟨h1, h2, h3⟩ := H.cell j y hy
    refine ⟨?_, ?_, ?_⟩ <;> (rw [Array.getElem?_setIfInBounds_ne (by omega), Array.getElem?_setIfInBounds_ne (by omega), Array.getElem?_setIfInBounds_ne (by omega)]; assumption)
  · subst hj
    rw [List.getElem?_append_right (by omega), hl, Nat.sub_self] at hy
    have : h = y := by simpa using hy
    subst this
    refine ⟨?_, ?_, ?_⟩
    · rw [Array.getElem?_setIfInBounds_ne (by omega), Array.getElem?_setIfInBounds_ne (by omega), Array.getElem?_setIfInBounds_self_of_lt (by omega)]
    · rw [Array.getElem?_setIfInBounds_ne (by omega), Array.getElem?_setIfInBounds_self_of_lt (by simp; omega)]
    · rw [Array.getElem?_setIfInBounds_self_of_lt (by simp; omega)]
  · rw [List.getElem?_eq_none (by simp; omega)] at hy
    cases hy
/-- While heads are read. -/
structure RdH (w : World) (R H n k : Nat) (zs : List Int) (s : RS) (wr : World) : Prop where
  row : ∃ cur, wr.heap[H]? = some (.cells cur 155 (0, 0)) ∧ HdR cur (rdHeads zs k s).2 n
  rd : RIs wr R zs (rdHeads zs k s).1
  gr : w.grownBy wr (some R)
  few : ∀ h ∈ (rdHeads zs k s).2, h.size ≤ 9223372036854775807 ∧ (Lit.int .u8 h.tag).wf = true
theorem tag_fits {w : World} {R : Nat} {zs : List Int} {s : RS} (h : RIs w R zs s) : (Lit.int .u8 (rdTag zs s).2).wf = true := by
  obtain ⟨a, cap, b, off, h⟩ := h
  have hf := h.data.fits
  unfold rdTag
  simp only
  have hm : ∀ x ∈ (rtake zs 0 1 s).2, x ∈ zs := by
    intro x hx
    unfold rtake at hx
    split at hx
    · split at hx
      · simp at hx
      · exact List.mem_of_mem_drop (List.mem_of_mem_take hx)
    · simp at hx
  generalize (rtake zs 0 1 s).2 = l at *
  cases l with
  | nil => decide
  | cons x xs => exact hf x (hm x (by simp))
/-- A section that was read: its bytes lie in new memory. -/
structure SecN (N : Nat) (w : World) (x : SecV) : Prop where
  inn : SecIn w.heap.size w x
  far : x.m.body.length = 0 ∨ (N ≤ x.bb ∧ ∃ cur, w.heap[x.bb]? = some (.cells cur 5 (0, 0)))
  fits : fitS x
theorem SecN.keep {N B : Nat} {w w' : World} {x : SecV} (h : SecN N w x) (hg : w.grownBy w' (some B)) (hB : B < N ∨ ∃ cur t, w.heap[B]? = some (.cells cur t (0, 0)) ∧ t ≠ 5) : SecN N w' x := by
  have hb : x.m.body.length = 0 ∨ x.bb ≠ B := by
    rcases h.far with h1 | ⟨h1, cur, h2⟩
    · exact .inl h1
    · refine .inr (fun e => ?_)
      rcases hB with h3 | ⟨c, t, h3, h4⟩
      · omega
      · rw [← e, h2] at h3
        cases h3
        exact h4 rfl
  refine ⟨⟨h.inn.row.stay (S := fun k => k ≠ B) (Stay.grown hg (fun k e hk => hk (by cases e; rfl))) hb, h.inn.nil, h.inn.cap⟩, ?_, h.fits⟩
  by_cases hz : x.m.body.length = 0
  · exact .inl hz
  · obtain ⟨h1, cur, h2⟩ := h.far.resolve_left hz
    exact .inr ⟨h1, cur, heap_kept h2 hg (by have := hb.resolve_left hz; simpa using this)⟩
/-- Sections in a row. -/
structure ScR (cur : Array Value) (V : List SecV) (n : Nat) : Prop where
  size : cur.size = n * 2
  cell : ∀ j x, V[j]? = some x → cur[j * 2]? = some (.int .u8 x.m.tag) ∧ cur[j * 2 + 1]? = some x.bv
theorem ScR.step {cur : Array Value} {V : List SecV} {n k : Nat} {x : SecV} (H : ScR cur V n) (hl : V.length = k) (hk : k < n) :
    ScR ((cur.setIfInBounds (k * 2) (.int .u8 x.m.tag)).setIfInBounds (k * 2 + 1) x.bv) (V ++ [x]) n := by
  refine ⟨by simpa using H.size, fun j y hy => ?_⟩
  have hs1 := H.size
  rcases Nat.lt_trichotomy j k with hj | hj | hj
  · rw [List.getElem?_append_left (by omega)] at hy
    obtain ⟨h1, h2⟩ := H.cell j y hy
    refine ⟨?_, ?_⟩ <;> (rw [Array.getElem?_setIfInBounds_ne (by omega), Array.getElem?_setIfInBounds_ne (by omega)]; assumption)
  · subst hj
    rw [List.getElem?_append_right (by omega), hl, Nat.sub_self] at hy
    have : x = y := by simpa using hy
    subst this
    refine ⟨?_, ?_⟩
    · rw [Array.getElem?_setIfInBounds_ne (by omega), Array.getElem?_setIfInBounds_self_of_lt (by omega)]
    · rw [Array.getElem?_setIfInBounds_self_of_lt (by simp; omega)]
  · rw [List.getElem?_eq_none (by simp; omega)] at hy
    cases hy
/-- While bodies are read. -/
structure RdB (w : World) (R H T Lb n k : Nat) (zs : List Int) (hs : List HeadM) (s : RS) (ag : Bool) (wr : World) : Prop where
  hd : ∃ cur, wr.heap[H]? = some (.cells cur 155 (0, 0)) ∧ HdR cur hs n
  ls : ∃ cur V, wr.heap[Lb]? = some (.cells cur 70 (0, 0)) ∧ ScR cur V n ∧ V.map (·.m) = (rdBodies zs (hs.take k) s).2.1 ∧ (∀ x ∈ V, SecN w.heap.size wr x) ∧ V.length = k
  rd : RIs wr R zs (rdBodies zs (hs.take k) s).1
  tab : TabAt wr T usual
  gr : w.grownBy wr (some R)
  ag : ag = (rdBodies zs (hs.take k) s).2.2
theorem SecN.on {N : Nat} {w w' : World} {x : SecV} (h : SecN N w x) (hb : Below w.heap.size w w') : SecN N w' x :=
  ⟨h.inn.on hb, h.far.imp id (fun ⟨h1, cur, h2⟩ => ⟨h1, cur, heap_below h2 hb (heap_lt h2)⟩), h.fits⟩
theorem RdB.on {w : World} {R H T Lb n k : Nat} {zs : List Int} {hs : List HeadM} {s : RS} {ag : Bool} {wr wr' : World} (h : RdB w R H T Lb n k zs hs s ag wr) (hb : Below wr.heap.size wr wr') : RdB w R H T Lb n k zs hs s ag wr' := by
  obtain ⟨⟨c1, a1, a2⟩, ⟨c2, V, b1, b2, b3, b4, b5⟩, h3, h4, h5, h6⟩ := h
  exact ⟨⟨c1, heap_below a1 hb (heap_lt a1), a2⟩, ⟨c2, V, heap_below b1 hb (heap_lt b1), b2, b3, fun x hx => (b4 x hx).on hb, b5⟩, h3.stay hb, h4.kept hb, h5.trans (grown_below hb _), h6⟩
theorem bodies_snoc {zs : List Int} {hs : List HeadM} {s : RS} {k : Nat} {h : HeadM} (hk : hs[k]? = some h) : rdBodies zs (hs.take (k + 1)) s = bstep zs (rdBodies zs (hs.take k) s) h := by
  obtain ⟨g1, g2⟩ := List.getElem?_eq_some_iff.1 hk
  unfold rdBodies
  rw [List.take_succ_eq_append_getElem g1, List.foldl_append, g2]
  rfl
theorem tab_keep {w w' : World} {T p B : Nat} (h : TabAt w T p) (hg : w.grownBy w' (some B)) (hne : T ≠ B) : TabAt w' T p := by
  obtain ⟨cur, h1, h2⟩ := h
  exact ⟨cur, heap_kept h1 hg (by simpa using hne), h2⟩
theorem madeCells_size (z : Array Value) (n : Nat) : (madeCells z n).size = n := by simp [madeCells]
theorem ris_lt {w : World} {R : Nat} {zs : List Int} {s : RS} (h : RIs w R zs s) : R < w.heap.size := by obtain ⟨a, cap, b, off, h⟩ := h; exact heap_lt h.box
theorem secs_row {N n Lb : Nat} {wr : World} {cur : Array Value} {V : List SecV} (h : wr.heap[Lb]? = some (.cells cur 70 (0, 0))) (hr : ScR cur V n) (hl : V.length = n) (hn : ∀ x ∈ V, SecN N wr x) (hle : n ≤ 255) : SecsAt wr.heap.size wr (some ⟨Lb, 0, none⟩) Lb 0 n n V := by
  refine ⟨⟨.inr rfl, hl, by unfold maxLen; omega, .inr (heap_lt h), fun i x hi j u hu => ?_, fun x hx => (hn x hx).fits⟩, fun x hx => (hn x hx).inn, fun e => (by cases e), Nat.le_refl _⟩
  obtain ⟨h1, h2⟩ := hr.cell i x hi
  match j, hu with
  | 0, hu =>
    have : Value.int .u8 x.m.tag = u := by simpa [encS] using hu
    subst this
    exact heap_cell h (by rw [Nat.zero_add]; exact h1)
  | 1, hu =>
    have : x.bv = u := by simpa [encS] using hu
    subst this
    exact heap_cell h (by rw [Nat.zero_add]; exact h2)
  | j + 2, hu => simp [encS] at hu
/-- What was read lies in new memory. -/
def ReadQ (w : World) (R : Nat) (zs : List Int) (s : RS) (e : Ending) (w' : World) : Prop :=
  ∃ Lb n V, e = .returned (.tuple #[.slice (some ⟨Lb, 0, none⟩) n n, .bool (okAll zs (rdAll zs s))]) ∧ Hid (SecsAt w'.heap.size w' (some ⟨Lb, 0, none⟩) Lb 0 n n V ∧ secsM V = (rdAll zs s).2.1 ∧ w.grownBy w' (some R) ∧ n ≤ 255)
set_option maxRecDepth 100000 in
set_option maxHeartbeats 4000000 in
theorem read_any (w : World) (R : Nat) (zs : List Int) (s : RS) (hz : zs.length ≤ 60000) (h : RIs w R zs s) :
    Calls Try.prog 70 #[.pointer (some ⟨R, 0, none⟩)] w (ReadQ w R zs s) := by
  have hRw := ris_lt h
  have HN : Hid (Calls Try.prog 82 #[.pointer (some ⟨R, 0, none⟩), .int .i64 255] w (IntPost .i64 w R zs (rcnt zs 255 s).1 (rcnt zs 255 s).2)) := Lib.hid (rcount_any w R zs s 255 255 (by decide) (by decide) (by decide) h)
  have HNL := rcnt_le zs 255 s
  have HCt : Hid (∀ W t, RIs W R zs t → Calls Try.prog 82 #[.pointer (some ⟨R, 0, none⟩), .int .i64 9223372036854775807] W (IntPost .i64 W R zs (rcnt zs cMax t).1 (rcnt zs cMax t).2)) := Lib.hid (fun W t hW => rcount_any W R zs t 9223372036854775807 cMax (by decide) (by decide) (by decide) hW)
  have HTg : Hid (∀ W t, RIs W R zs t → Calls Try.prog 92 #[.pointer (some ⟨R, 0, none⟩)] W (IntPost .u8 W R zs (rdTag zs t).1 (rdTag zs t).2)) := Lib.hid (fun W t hW => readTag_any W R zs t hz hW)
  have HFx : Hid (∀ W t, RIs W R zs t → Calls Try.prog 90 #[.pointer (some ⟨R, 0, none⟩)] W (IntPost .u32 W R zs (rfixed zs t).1 (rfixed zs t).2)) := Lib.hid (fun W t hW => rfixed_any W R zs t hW)
  obtain ⟨s1, hs1⟩ : ∃ s1, (rcnt zs 255 s).1 = s1 := ⟨_, rfl⟩
  obtain ⟨n, hn⟩ : ∃ n, (rcnt zs 255 s).2 = n := ⟨_, rfl⟩
  rw [hs1, hn] at HN
  rw [hn] at HNL
  have HSE := Lib.hid (And.intro hs1 hn)
  have HEn : Hid (∀ W t, RIs W R zs t → Calls Try.prog 93 #[.pointer (some ⟨R, 0, none⟩)] W (FailPost W R zs (rend zs t))) := Lib.hid (fun W t hW => rend_any W R zs t hW)
  have HFt : Hid (∀ W t, RIs W R zs t → Calls Try.prog 84 #[.pointer (some ⟨R, 0, none⟩)] W (FaultPost W t)) := Lib.hid (fun W t hW => rfault_any W R zs t hW)
  clear h hs1 hn
  have HNE : Hid (155 ≠ 5 ∧ 70 ≠ 5) := Lib.hid ⟨by decide, by decide⟩
  go_enter Try.func70, Try.ntmps70
  go_wp2_with fail
  refine HN.out.mono ?_
  rintro e w1 ⟨rfl, hr1, hg1⟩
  have kmk := madeH w1 n (by omega)
  have HR1 := Lib.hid (And.intro hr1 hg1)
  clear hr1 hg1 HN
  go_wp2_with fail
  clear kmk
  have HP0 : Hid (RdH w R w1.heap.size n 0 zs s1 (w1.alloc (.cells (madeCells zHead (n * 3)) 155))) := Lib.hid ⟨⟨_, heap_new _ rfl, madeCells_size _ _, fun j h hj => by simp [rdHeads] at hj⟩, HR1.out.1.stay ((Below.refl _ _).alloc (Nat.le_refl _) _), HR1.out.2.trans (World.grownBy_alloc w1 _ _), fun h hh => by simp [rdHeads] at hh⟩
  have HWS : Hid (w.heap.size ≤ w1.heap.size) := Lib.hid HR1.out.2.size
  obtain ⟨H, hH⟩ : ∃ H, w1.heap.size = H := ⟨_, rfl⟩
  rw [hH] at HP0 HWS ⊢
  generalize w1.alloc (.cells (madeCells zHead (n * 3)) 155) = w2 at *
  clear HR1 hH
  go_loopw [16] (fun i wr => ∃ k : Nat, k ≤ n ∧ i = .int .i64 (k : Int) ∧ Hid (RdH w R H n k zs s1 wr)) (fun i _ => n - (intOf i).toNat)
  case atStart => exact ⟨0, Nat.zero_le _, rfl, HP0⟩
  case round =>
    obtain ⟨k, hk, rfl, HP⟩ := hrel
    clear HP0
    have hk0 : (0 : Int) ≤ (k : Int) := Int.natCast_nonneg k
    have hRH : R ≠ H := by have := HWS.out; omega
    by_cases hk1 : k < n
    · have hki : (k : Int) < (n : Int) := by omega
      have HC1 := Lib.hid (HTg.out wr _ HP.out.rd)
      obtain ⟨t0, ht0⟩ : ∃ t0, (rdHeads zs k s1).1 = t0 := ⟨_, rfl⟩
      rw [ht0] at HC1
      have HT0 := Lib.hid ht0
      have hfit := tag_fits HP.out.rd
      rw [ht0] at hfit
      clear ht0
      go_wp2_with fail
      refine HC1.out.mono ?_
      rintro e w5 ⟨rfl, hr5, hg5⟩
      have HG5 := Lib.hid hg5
      have HC2 := Lib.hid (HCt.out w5 _ hr5)
      clear hr5 hg5 HC1
      go_wp2_with fail
      refine HC2.out.mono ?_
      rintro e w6 ⟨rfl, hr6, hg6⟩
      have HG6 := Lib.hid (HG5.out.trans hg6)
      have HC3 := Lib.hid (HFx.out w6 _ hr6)
      have hsz6 : (rcnt zs cMax (rdTag zs t0).1).2 ≤ 9223372036854775807 := rcnt_le _ _ _
      clear hr6 hg6 HC2 HG5
      go_wp2_with fail
      refine HC3.out.mono ?_
      rintro e w7 ⟨rfl, hr7, hg7⟩
      obtain ⟨cur, hcur, hrow⟩ := HP.out.row
      have hx7 := heap_kept (heap_kept hcur HG6.out (by simp; omega)) hg7 (by simp; omega)
      have hlt7 := heap_lt hx7
      have f0 := heap_frozen hx7 (k * 3)
      have f1 := heap_frozen hx7 (k * 3 + 1)
      have f2 := heap_frozen hx7 (k * 3 + 2)
      have hcs := hrow.size
      obtain ⟨v0, hv0⟩ : ∃ v, cur[k * 3]? = some v := ⟨_, Array.getElem?_eq_getElem (by omega)⟩
      obtain ⟨v1, hv1⟩ : ∃ v, cur[k * 3 + 1]? = some v := ⟨_, Array.getElem?_eq_getElem (by omega)⟩
      obtain ⟨v2, hv2⟩ : ∃ v, cur[k * 3 + 2]? = some v := ⟨_, Array.getElem?_eq_getElem (by omega)⟩
      have c0 := heap_cell hx7 hv0
      have c1 := heap_cell hx7 hv1
      have c2 := heap_cell hx7 hv2
      have HX7 := Lib.hid (And.intro hx7 (And.intro hrow (And.intro hr7 (HP.out.gr.trans (HG6.out.trans hg7)))))
      clear hcur hx7 hrow hr7 hg7 HC3 HG6 hv0 hv1 hv2 hcs
      have HS : Hid (rdHeads zs (k + 1) s1 = ((rdHead zs t0).1, (rdHeads zs k s1).2 ++ [(rdHead zs t0).2])) := Lib.hid (by rw [← HT0.out]; rfl)
      go_wp2
      go_roundw
      case rel =>
        have g3 := ((grown_set w7 H (k * 3) (.int .u8 (rdTag zs t0).2)).trans (grown_set _ H (k * 3 + 1) (.int .i64 (rcnt zs cMax (rdTag zs t0).1).2))).trans (grown_set _ H (k * 3 + 2) (.int .u32 (rfixed zs (rcnt zs cMax (rdTag zs t0).1).1).2))
        refine ⟨k + 1, by omega, by go_num, Lib.hid ⟨⟨_, heap_set (heap_set (heap_set HX7.out.1 _ _) _ _) _ _, ?_⟩, ?_, grown_new HX7.out.2.2.2 g3 HWS.out, ?_⟩⟩
        · rw [HS.out]
          exact HX7.out.2.1.step (h := (rdHead zs t0).2) (rdHeads_length _ _ _) hk1
        · rw [HS.out]
          exact HX7.out.2.2.1.apart HX7.out.1 HNE.out.1 hRH g3
        · rw [HS.out]
          intro h hh
          rcases List.mem_append.1 hh with hh | hh
          · exact HP.out.few h hh
          · rw [List.mem_singleton.1 hh]
            exact ⟨hsz6, hfit⟩
      case measure => simp [intOf]; omega
    · obtain rfl : k = n := by omega
      obtain ⟨cur, hcur, hrow⟩ := HP.out.row
      obtain ⟨hs, hhs⟩ : ∃ hs, (rdHeads zs k s1).2 = hs := ⟨_, rfl⟩
      obtain ⟨s2, hs2⟩ : ∃ s2, (rdHeads zs k s1).1 = s2 := ⟨_, rfl⟩
      have hfew := HP.out.few
      have hrd := HP.out.rd
      have hhl : hs.length = k := by rw [← hhs]; exact rdHeads_length _ _ _
      have hgr := HP.out.gr
      rw [hhs] at hrow hfew
      rw [hs2] at hrd
      have HE2 := Lib.hid (And.intro hhs hs2)
      have HHL := Lib.hid hhl
      have HFEW := Lib.hid hfew
      have HCUR := Lib.hid (And.intro hcur hrow)
      have HRD := Lib.hid (And.intro hrd hgr)
      have HMk := Lib.hid (make_any usual wr usual_lt)
      clear hhl hfew hcur hrow hrd hgr hhs hs2 HP HTg HFx HCt
      go_wp2_with fail
      refine HMk.out.mono ?_
      rintro e w3 ⟨rfl, ht, hb3⟩
      obtain ⟨T, hT⟩ : ∃ T, wr.heap.size = T := ⟨_, rfl⟩
      rw [hT] at ht ⊢
      have kmk := madeS w3 k (by omega)
      have HT := Lib.hid (And.intro ht (And.intro hb3 hT))
      clear ht hb3 hT HMk
      go_wp2_with fail
      clear kmk
      obtain ⟨Lb, hLb⟩ : ∃ Lb, w3.heap.size = Lb := ⟨_, rfl⟩
      have hHT : H < T := by have := heap_lt HCUR.out.1; have := HT.out.2.2; omega
      have hTL : T < Lb := by obtain ⟨c9, h9, -⟩ := HT.out.1; have := heap_lt h9; omega
      have HB0 : Hid (RdB w R H T Lb k 0 zs hs s2 true (w3.alloc (.cells (madeCells zSecP (k * 2)) 70))) := Lib.hid ⟨⟨cur, heap_alloc (heap_below HCUR.out.1 HT.out.2.1 (heap_lt HCUR.out.1)) _, HCUR.out.2⟩, ⟨_, [], heap_new _ hLb.symm, ⟨madeCells_size _ _, fun j x hj => by simp at hj⟩, rfl, fun x hx => by simp at hx, rfl⟩, (HRD.out.1.stay HT.out.2.1).stay ((Below.refl _ _).alloc (Nat.le_refl _) _), HT.out.1.kept ((Below.refl _ _).alloc (Nat.le_refl _) _), (HRD.out.2.trans (grown_below HT.out.2.1 _)).trans (World.grownBy_alloc w3 _ _), rfl⟩
      rw [hLb] at ⊢
      generalize w3.alloc (.cells (madeCells zSecP (k * 2)) 70) = w4 at *
      clear HT HRD HCUR hLb
      have HRaw : Hid (∀ W t m, RIs W R zs t → m ≤ 9223372036854775807 → Calls Try.prog 69 #[.pointer (some ⟨R, 0, none⟩), .int .i64 (m : Nat)] W (RawPost W R zs (rtake zs 0 m t))) := Lib.hid (fun W t m hW hm => rraw_any W R zs t m m (by omega) (by omega) (by omega) hz hW)
      have HSum : Hid (∀ W : World, TabAt W T usual → ∀ (B : Nat) (a : Option Addr) (b off len cap : Nat) (xs : List Int), IntsAt .u8 B W a b off len xs → Calls Try.prog 60 #[.pointer (some ⟨T, 0, none⟩), .slice a len cap] W fun e w' => e = .returned (.int .u32 (sumB xs)) ∧ w' = W) := Lib.hid (fun W hT B a b off len cap xs hi => (sum_any usual T usual_lt xs B a b off len cap W hT hi).mono (fun e w' h => ⟨h.1, h.2.symm⟩))
      go_loopw [7, 36] (fun ag i wr => ∃ (j : Nat) (g : Bool), j ≤ k ∧ i = .int .i64 (j : Int) ∧ ag = .bool g ∧ Hid (RdB w R H T Lb k j zs hs s2 g wr)) (fun _ i _ => k - (intOf i).toNat)
      case atStart => exact ⟨0, true, Nat.zero_le _, rfl, rfl, HB0⟩
      case round =>
        obtain ⟨j, g, hj, rfl, rfl, HP⟩ := hrel
        clear HB0
        have hj0 : (0 : Int) ≤ (j : Int) := Int.natCast_nonneg j
        by_cases hj1 : j < k
        · have hji : (j : Int) < (k : Int) := by omega
          obtain ⟨hd, hhd⟩ : ∃ hd, hs[j]? = some hd := ⟨_, List.getElem?_eq_getElem (by rw [HHL.out]; exact hj1)⟩
          obtain ⟨cH, hcH, hrH⟩ := HP.out.hd
          obtain ⟨e0, e1, e2⟩ := hrH.cell j hd hhd
          have c0 := heap_cell hcH e0
          have c1 := heap_cell hcH e1
          have c2 := heap_cell hcH e2
          have hfw := HFEW.out hd (List.mem_of_getElem? hhd)
          obtain ⟨cL, V, hcL, hrL, hVm, hVn, hVl⟩ := HP.out.ls
          have HSN := Lib.hid (bodies_snoc (zs := zs) (s := s2) hhd)
          obtain ⟨rb, hrb⟩ : ∃ rb, rdBodies zs (hs.take j) s2 = rb := ⟨_, rfl⟩
          have hrd := HP.out.rd
          have hag := HP.out.ag
          rw [hrb] at HSN hVm hrd hag
          obtain ⟨tg, htg⟩ : ∃ tg, hd.tag = tg := ⟨_, rfl⟩
          obtain ⟨sz, hsz⟩ : ∃ sz, hd.size = sz := ⟨_, rfl⟩
          obtain ⟨sm, hsm⟩ : ∃ sm, hd.sum = sm := ⟨_, rfl⟩
          rw [htg] at c0 hfw
          rw [hsz] at c1 hfw
          rw [hsm] at c2
          have HDE := Lib.hid (And.intro htg (And.intro hsz hsm))
          have hbw : Below wr.heap.size wr (wr.alloc (.cells #[.int .u8 tg, .int .i64 sz, .int .u32 sm] 155)) := (Below.refl _ _).alloc (Nat.le_refl _) _
          have HW : Hid (RIs (wr.alloc (.cells #[.int .u8 tg, .int .i64 sz, .int .u32 sm] 155)) R zs rb.1 ∧ (wr.alloc (.cells #[.int .u8 tg, .int .i64 sz, .int .u32 sm] 155)).heap[wr.heap.size]? = some (.cells #[.int .u8 tg, .int .i64 sz, .int .u32 sm] 155 (0, 0)) ∧ (wr.alloc (.cells #[.int .u8 tg, .int .i64 sz, .int .u32 sm] 155)).heap[Lb]? = some (.cells cL 70 (0, 0)) ∧ Below wr.heap.size wr (wr.alloc (.cells #[.int .u8 tg, .int .i64 sz, .int .u32 sm] 155)) ∧ wr.heap.size < (wr.alloc (.cells #[.int .u8 tg, .int .i64 sz, .int .u32 sm] 155)).heap.size) := Lib.hid ⟨hrd.stay hbw, heap_new _ rfl, heap_alloc hcL _, hbw, by simp⟩
          have d0 := heap_cell HW.out.2.1 (i := 0) rfl
          have d1 := heap_cell HW.out.2.1 (i := 1) rfl
          simp only [List.getElem_toArray, List.getElem_cons_zero, List.getElem_cons_succ] at d0 d1
          have hLw := heap_lt hcL
          have hHw := heap_lt hcH
          have HV := Lib.hid (And.intro hrL (And.intro hVm (And.intro hVn (And.intro hVl (And.intro hag hcL)))))
          have hRLb : R ≠ Lb := by have := HWS.out; omega
          clear hcH hrH e0 e1 e2 hcL hrL hVm hVn hVl hrd hag hrb htg hsz hsm hhd hbw
          go_wp2_with fail
          generalize wr.alloc (.cells #[.int .u8 tg, .int .i64 sz, .int .u32 sm] 155) = W0 at *
          have hLw0 := heap_lt HW.out.2.2.1
          have hcs := HV.out.1.size
          obtain ⟨v0, hv0⟩ : ∃ v, cL[j * 2]? = some v := ⟨_, Array.getElem?_eq_getElem (by omega)⟩
          obtain ⟨v1, hv1⟩ : ∃ v, cL[j * 2 + 1]? = some v := ⟨_, Array.getElem?_eq_getElem (by omega)⟩
          have HVC := Lib.hid (And.intro hv0 hv1)
          have hwn : R ≠ wr.heap.size := by have := HP.out.gr.size; omega
          obtain ⟨rt, hrt⟩ : ∃ rt, rtake zs 0 sz rb.1 = rt := ⟨_, rfl⟩
          have HRT := Lib.hid hrt
          have HRW : Hid (∀ W, RIs W R zs rb.1 → Calls Try.prog 69 #[.pointer (some ⟨R, 0, none⟩), .int .i64 (sz : Nat)] W (RawPost W R zs rt)) := Lib.hid (fun W hW => by rw [← hrt]; exact HRaw.out W _ _ hW hfw.1)
          clear hrt
          clear hv0 hv1 hcs
          go_region_law (first
            | (go_simp; go_at_call 69; refine (HRW.out _ (by first | exact HW.out.1 | exact HW.out.1.stay (Below.refl _ _).drew)).mono ?_; rintro e w6 ⟨a6, b6, cap6, rfl, hc6, hnil6, hI6, hb6, hr6, hg6, hty6⟩; have hg6' : W0.grownBy w6 (some R) := (grown_drew W0 _).trans hg6; have hL6 := heap_kept HW.out.2.2.1 hg6' (by simp; omega); have hB6 := heap_kept HW.out.2.1 hg6' (by simp; omega); have e0 := heap_cell hB6 (i := 0) rfl; simp only [List.getElem_toArray, List.getElem_cons_zero, List.getElem_cons_succ] at e0; have x0 := heap_cell hL6 HVC.out.1; have x1 := heap_cell hL6 HVC.out.2; have y0 := heap_frozen hL6 (j * 2); have y1 := heap_frozen hL6 (j * 2 + 1); have hl6 := heap_lt hL6; have HJ := Lib.hid (And.intro hc6 (And.intro hnil6 (And.intro hI6 (And.intro hb6 (And.intro hr6 (And.intro hg6' (And.intro hty6 (And.intro hL6 hB6)))))))); clear hc6 hnil6 hI6 hb6 hr6 hg6 hg6' hty6 hL6 hB6))
          all_goals
            have HK : Hid ((∀ g', g' = (g && decide (sumB rt.2 = sm)) → RdB w R H T Lb k (j + 1) zs hs s2 g' ((w6.setCell ⟨Lb, j * 2, none⟩ (.int .u8 tg)).setCell ⟨Lb, j * 2 + 1, none⟩ (.slice a6 rt.2.length cap6))) ∧ TabAt ((w6.setCell ⟨Lb, j * 2, none⟩ (.int .u8 tg)).setCell ⟨Lb, j * 2 + 1, none⟩ (.slice a6 rt.2.length cap6)) T usual ∧ IntsAt .u8 ((w6.setCell ⟨Lb, j * 2, none⟩ (.int .u8 tg)).setCell ⟨Lb, j * 2 + 1, none⟩ (.slice a6 rt.2.length cap6)).heap.size ((w6.setCell ⟨Lb, j * 2, none⟩ (.int .u8 tg)).setCell ⟨Lb, j * 2 + 1, none⟩ (.slice a6 rt.2.length cap6)) a6 b6 0 rt.2.length rt.2 ∧ ((w6.setCell ⟨Lb, j * 2, none⟩ (.int .u8 tg)).setCell ⟨Lb, j * 2 + 1, none⟩ (.slice a6 rt.2.length cap6)).heap[Lb]? = some (.cells ((cL.setIfInBounds (j * 2) (.int .u8 tg)).setIfInBounds (j * 2 + 1) (.slice a6 rt.2.length cap6)) 70 (0, 0)) ∧ ((w6.setCell ⟨Lb, j * 2, none⟩ (.int .u8 tg)).setCell ⟨Lb, j * 2 + 1, none⟩ (.slice a6 rt.2.length cap6)).heap[wr.heap.size]? = some (.cells #[.int .u8 tg, .int .i64 sz, .int .u32 sm] 155 (0, 0))) := Lib.hid (by
              obtain ⟨hc6, hnil6, hI6, hb6, hr6, hg6, hty6, hL6, hB6⟩ := HJ.out
              obtain ⟨hrL, hVm, hVn, hVl, hag, hcL⟩ := HV.out
              have g2 := (grown_set w6 Lb (j * 2) (.int .u8 tg)).trans (grown_set _ Lb (j * 2 + 1) (.slice a6 rt.2.length cap6))
              have hbw := HW.out.2.2.2.1
              have hz1 := HP.out.gr.size
              have hz2 := HW.out.2.2.2.2
              have hws := HWS.out
              have hSx : SecN w.heap.size w6 ⟨⟨tg, rt.2⟩, a6, b6, 0, cap6⟩ := ⟨⟨hI6, hnil6, hc6⟩, by
                by_cases h0 : rt.2.length = 0
                · exact .inl h0
                · exact .inr ⟨by have h1 : W0.heap.size ≤ b6 := hb6.resolve_left h0
                                 show w.heap.size ≤ b6
                                 omega, hty6.resolve_left h0⟩, hfw.2⟩
              have hSx7 := hSx.keep g2 (.inr ⟨cL, _, hL6, HNE.out.2⟩)
              have hT7 := tab_keep (tab_keep (HP.out.tab.kept hbw) hg6 (by omega)) g2 (by omega)
              have hLset := heap_set (heap_set hL6 (j * 2) (.int .u8 tg)) (j * 2 + 1) (.slice a6 rt.2.length cap6)
              refine ⟨fun g' hg' => ⟨?_, ⟨_, V ++ [⟨⟨tg, rt.2⟩, a6, b6, 0, cap6⟩], hLset, ?_, ?_, ?_, ?_⟩, ?_, hT7, ?_, ?_⟩, hT7, hSx7.inn.row, hLset, heap_other (heap_other hB6 (by omega) _ _) (by omega) _ _⟩
              · obtain ⟨c9, h9, h10⟩ := HP.out.hd
                exact ⟨c9, heap_kept (heap_kept (heap_below h9 hbw (heap_lt h9)) hg6 (by simp; omega)) g2 (by simp; omega), h10⟩
              · exact hrL.step (x := ⟨⟨tg, rt.2⟩, a6, b6, 0, cap6⟩) hVl hj1
              · rw [HSN.out, List.map_append, hVm]
                unfold bstep
                simp only [HDE.out.1, HDE.out.2.1, HRT.out, List.map_cons, List.map_nil]
              · intro x hx
                rcases List.mem_append.1 hx with hx | hx
                · exact (((hVn x hx).on hbw).keep hg6 (.inl hRw)).keep g2 (.inr ⟨cL, _, hL6, HNE.out.2⟩)
                · rw [List.mem_singleton.1 hx]; exact hSx7
              · simp [hVl]
              · rw [HSN.out]
                unfold bstep
                simp only [HDE.out.2.1, HRT.out]
                exact hr6.apart hL6 HNE.out.2 hRLb g2
              · exact grown_new ((HP.out.gr.trans (grown_below hbw _)).trans hg6) g2 (by have := HWS.out; omega)
              · rw [HSN.out, hg', hag]
                unfold bstep
                simp only [HDE.out.2.1, HDE.out.2.2, HRT.out])
            generalize (w6.setCell ⟨Lb, j * 2, none⟩ (.int .u8 tg)).setCell ⟨Lb, j * 2 + 1, none⟩ (.slice a6 rt.2.length cap6) = W7 at *
            clear HJ x0 x1 y0 y1 e0 d0 d1 c0 c1 c2
            have hsz7 : (cL.setIfInBounds (j * 2) (Value.int .u8 tg)).size = k * 2 := by rw [Array.size_setIfInBounds]; exact HV.out.1.size
            have c1 := heap_cell HK.out.2.2.2.1 (i := j * 2 + 1) (by rw [Array.getElem?_setIfInBounds_self_of_lt (by rw [hsz7]; omega)])
            have c2 := heap_cell HK.out.2.2.2.2 (i := 2) rfl
            simp only [List.getElem_toArray, List.getElem_cons_zero, List.getElem_cons_succ] at c2
            have hLt := heap_lt HK.out.2.2.2.1
            have hBt := heap_lt HK.out.2.2.2.2
            have HSm : Hid (∀ q, Calls Try.prog 60 #[.pointer (some ⟨T, 0, none⟩), .slice a6 rt.2.length cap6] (W7.drewN q) fun e w' => e = .returned (.int .u32 (sumB rt.2)) ∧ w' = W7.drewN q) := Lib.hid (fun q => HSum.out _ (HK.out.2.1.kept (drewN_below W7 q)) _ _ _ _ _ _ _ (HK.out.2.2.1.kept (drewN_below W7 q) (Nat.le_refl _)))
            obtain ⟨sb, hsb⟩ : ∃ sb, sumB rt.2 = sb := ⟨_, rfl⟩
            have HK1 := Lib.hid HK.out.1
            rw [hsb] at HSm HK1
            clear HK hsb hsz7
            cases g with
            | false =>
              have HN : Hid (RdB w R H T Lb k (j + 1) zs hs s2 false W7) := Lib.hid (HK1.out false rfl)
              clear HK1 HSm
              go_wp2
              go_quiet (fail)
              go_wp2
              go_roundw
              case rel => exact ⟨j + 1, false, by omega, by go_num, rfl, Lib.hid (HN.out.on (drewN_below W7 _))⟩
              case measure => simp [intOf]; omega
            | true =>
              by_cases hsm : sb = sm
              · have hbe : (sb == sm) = true := by simpa using hsm
                have HN : Hid (RdB w R H T Lb k (j + 1) zs hs s2 true W7) := Lib.hid (HK1.out true (by simp [hsm]))
                clear HK1 hsm
                go_wp2
                go_quiet ((go_at_call 60; with_reducible exact Calls.quiet_of_same (HSm.out _)))
                go_wp2
                go_roundw
                case rel => exact ⟨j + 1, true, by omega, by go_num, rfl, Lib.hid (HN.out.on (drewN_below W7 _))⟩
                case measure => simp [intOf]; omega
              · have hbe : (sb == sm) = false := by simpa using hsm
                have HN : Hid (RdB w R H T Lb k (j + 1) zs hs s2 false W7) := Lib.hid (HK1.out false (by simp [hsm]))
                clear HK1 hsm
                go_wp2
                go_quiet ((go_at_call 60; with_reducible exact Calls.quiet_of_same (HSm.out _)))
                go_wp2
                go_roundw
                case rel => exact ⟨j + 1, false, by omega, by go_num, rfl, Lib.hid (HN.out.on (drewN_below W7 _))⟩
                case measure => simp [intOf]; omega
        · obtain rfl : j = k := by omega
          have hA : rdBodies zs hs s2 = rdAll zs s := by
            unfold rdAll
            rw [HSE.out.1, HSE.out.2, HE2.out.1, HE2.out.2]
          have htk : hs.take j = hs := List.take_of_length_le (by rw [HHL.out]; exact Nat.le_refl _)
          have hB := HP.out
          have HB : Hid (RIs wr R zs (rdAll zs s).1 ∧ g = (rdAll zs s).2.2 ∧ w.grownBy wr (some R) ∧ ∃ c2 V, wr.heap[Lb]? = some (.cells c2 70 (0, 0)) ∧ ScR c2 V j ∧ (∀ x ∈ V, SecN w.heap.size wr x) ∧ V.length = j ∧ secsM V = (rdAll zs s).2.1) := Lib.hid (by
            obtain ⟨c2, V, b1, b2, b3, b4, b5⟩ := hB.ls
            refine ⟨?_, ?_, hB.gr, c2, V, b1, b2, b4, b5, ?_⟩
            · have := hB.rd; rwa [htk, hA] at this
            · have := hB.ag; rwa [htk, hA] at this
            · rw [htk, hA] at b3; exact b3)
          have HE1 := Lib.hid (HEn.out wr _ HB.out.1)
          clear hB hA htk HP HRaw HSum
          go_wp2_with fail
          refine HE1.out.mono ?_
          rintro e w5 ⟨rfl, hr5, hg5⟩
          obtain ⟨c2, V, b1, b2, b4, b5, hVm⟩ := HB.out.2.2.2
          have hRLb : R ≠ Lb := by have := HWS.out; omega
          have hV := secs_row (heap_kept b1 hg5 (by simp; omega)) b2 b5 (fun x hx => (b4 x hx).keep hg5 (.inl hRw)) HNL
          have HQ : Hid (∀ w' ok, Below w5.heap.size w5 w' → ok = okAll zs (rdAll zs s) → ReadQ w R zs s (.returned (.tuple #[.slice (some ⟨Lb, 0, none⟩) j j, .bool ok])) w') := Lib.hid (fun w' ok hb hok => ⟨Lb, j, V, by rw [hok], Lib.hid ⟨hV.on hb, hVm, (HB.out.2.2.1.trans hg5).trans (grown_below hb _), HNL⟩⟩)
          have HRi := Lib.hid (rise_any hV (by omega))
          rw [hVm] at HRi
          have HFr : Hid (∀ w', Below w5.heap.size w5 w' → Calls Try.prog 84 #[.pointer (some ⟨R, 0, none⟩)] w' (FaultPost w' (rend zs (rdAll zs s).1))) := Lib.hid (fun w' hb => HFt.out w' _ (hr5.stay hb))
          have HOK : Hid (okAll zs (rdAll zs s) = (g && riseB (rdAll zs s).2.1 && decide ((rend zs (rdAll zs s).1).e = 0))) := Lib.hid (by rw [HB.out.2.1]; rfl)
          have kfe := run_faultE ((rend zs (rdAll zs s).1).e : Int) ((rend zs (rdAll zs s).1).fa : Int)
          obtain ⟨rs, hrs⟩ : ∃ rs, rend zs (rdAll zs s).1 = rs := ⟨_, rfl⟩
          obtain ⟨rb, hrb⟩ : ∃ rb, riseB (rdAll zs s).2.1 = rb := ⟨_, rfl⟩
          rw [hrs] at HFr HOK kfe
          rw [hrb] at HRi HOK
          obtain ⟨ok, hok⟩ : ∃ ok, okAll zs (rdAll zs s) = ok := ⟨_, rfl⟩
          rw [hok] at HOK HQ
          clear b1 b2 b4 b5 hV hVm hr5 hg5 hrs hrb hok HE1 HB HEn HFt
          cases g with
          | false =>
            have hq : ok = false := by rw [HOK.out]; simp
            subst hq
            have HQ1 := Lib.hid (HQ.out w5 false (Below.refl _ _) rfl)
            clear HRi HFr kfe
            go_wp2
            go_ret2
            exact HQ1.out
          | true =>
            cases rb with
            | false =>
              have hq : ok = false := by rw [HOK.out]; simp
              subst hq
              clear HFr kfe
              go_wp2_with fail
              refine HRi.out.mono ?_
              rintro e w6 ⟨rfl, hb6⟩
              have HQ1 := Lib.hid (HQ.out w6 false hb6 rfl)
              clear hb6
              go_wp2
              go_ret2
              exact HQ1.out
            | true =>
              go_wp2_with fail
              refine HRi.out.mono ?_
              rintro e w6 ⟨rfl, hb6⟩
              have HF6 := Lib.hid (HFr.out w6 hb6)
              have HB6 := Lib.hid hb6
              clear hb6 HFr HRi
              go_wp2_with fail
              refine HF6.out.mono ?_
              rintro e w7 ⟨rfl, hb7⟩
              have HB7 := Lib.hid (HB6.out.trans (hb7.mono HB6.out.size))
              clear hb7 HF6
              by_cases he : rs.e = 0
              · have hei : ((rs.e : Int) == 0) = true := by simpa using he
                have hq : ok = true := by rw [HOK.out]; simp [he]
                subst hq
                have HQ1 := Lib.hid (HQ.out w7 true HB7.out rfl)
                clear he
                go_wp2
                go_ret2
                exact HQ1.out
              · have hei : ((rs.e : Int) == 0) = false := by simp; omega
                have hq : ok = false := by rw [HOK.out]; simp [he]
                subst hq
                have HQ1 := Lib.hid (HQ.out w7 false HB7.out rfl)
                clear he
                go_wp2
                go_ret2
                exact HQ1.out
end Go.Proofs.Ytnkhpmpoemodiaa.Se
