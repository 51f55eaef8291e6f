/- Contracts: each name's first place, as a map. -/
import Derived.Test.YtjcmeacgfflfmaaGreatMdB
import Derived.Deep.Cut
set_option linter.unusedVariables false
set_option linter.unusedSectionVars false
set_option linter.unusedSimpArgs false
namespace Go.Proofs.YtjcmeacgfflfmaaGreat.Md
open Go.RowKit

def PlacesPost (ns : List ByteArray) (w : World) (e : Ending) (w' : World) : Prop := ∃ mb, e = .returned (.map (some mb)) ∧ Hid (PlMap w' mb ns.length (fstP ns)) ∧ w.heap.size ≤ mb ∧ Hid (Below w.heap.size w w')
theorem run_makeMap_hint {P : Program} {t k e : TypeId} (hu : P.underlying t = some (.map k e)) (n : Int) (w : World) : (Instr.makeMap t (some (.int .i64 n))).run P w = .ok (.map (some w.heap.size)) (w.alloc (.map #[] 0)) := by
  simp [Instr.makeMap, run_underlying hu, asInt, asIntOf, Result.andThen]
/-- While names are laid. -/
structure PlR (w : World) (mb j : Nat) (ns : List ByteArray) (W : World) : Prop where
  map : PlMap W mb j (fstP (ns.take j))
  below : Below w.heap.size w W
theorem pl_step {ns : List ByteArray} {j : Nat} {x : ByteArray} (hx : ns[j]? = some x) (y : ByteArray) : fstP (ns.take (j + 1)) y = match fstP (ns.take j) y with | some i => some i | none => if x = y then some j else none := by
  obtain ⟨hj, rfl⟩ := List.getElem?_eq_some_iff.1 hx
  rw [List.take_succ_eq_append_getElem hj, fstP_snoc, List.length_take, Nat.min_eq_left (by omega)]
  rfl
theorem pl_there {ns : List ByteArray} {j : Nat} {x : ByteArray} (hx : ns[j]? = some x) (hs : (fstP (ns.take j) x).isSome = true) (y : ByteArray) : fstP (ns.take j) y = fstP (ns.take (j + 1)) y := by
  rw [pl_step hx]
  cases h : fstP (ns.take j) y with
  | some i => rfl
  | none =>
    by_cases e : x = y
    · subst e; rw [h] at hs; cases hs
    · simp [e]
theorem pl_new {ns : List ByteArray} {j : Nat} {x : ByteArray} (hx : ns[j]? = some x) (hs : (fstP (ns.take j) x).isSome = false) (y : ByteArray) : (if y = x then some j else fstP (ns.take j) y) = fstP (ns.take (j + 1)) y := by
  rw [pl_step hx]
  by_cases e : y = x
  · subst e
    rw [if_pos rfl]
    cases h : fstP (ns.take j) y with
    | some i => rw [h] at hs; cases hs
    | none => simp
  · rw [if_neg e]
    cases h : fstP (ns.take j) y with
    | some i => rfl
    | none =>
      show (none : Option Nat) = if x = y then some j else none
      rw [if_neg (fun e' : x = y => e e'.symm)]

set_option maxRecDepth 100000 in
set_option maxHeartbeats 2000000 in
theorem places_P {w : World} {a : Option Addr} {b off len cap : Nat} {L : List ProcV} (h : RowsAt encP fitP 4 w.heap.size w a b off len L) :
    Calls Tryz.prog 57 #[.slice a len cap, .func (.func 58) #[] #[]] w (PlacesPost (L.map (fun x => x.p.name)) w) := by
  have HM := Lib.hid h
  have hl := h.length
  have hsm := h.small
  unfold maxLen at hsm
  obtain ⟨ns, hns⟩ : ∃ ns, L.map (fun x => x.p.name) = ns := ⟨_, rfl⟩
  rw [hns]
  have HNl : Hid (ns.length = len) := Lib.hid (by rw [← hns, List.length_map, hl])
  have HNx : Hid (∀ (j : Nat) (x : ProcV), L[j]? = some x → ns[j]? = some x.p.name) := Lib.hid (fun j x hx => by rw [← hns, List.getElem?_map, hx]; rfl)
  have HL := Lib.hid hl
  have HT0 : Hid (PlR w w.heap.size 0 ns (w.alloc (.map #[] 0))) := Lib.hid ⟨(MapS.made w Tryz.prog 9 3).congr (fun x => by rw [List.take_zero]; rfl), (Below.refl _ w).alloc (Nat.le_refl _) _⟩
  have hmm := run_makeMap_hint Tryz.underlying81 (len : Int) w
  clear h hl hns
  go_enter Tryz.func57, Tryz.ntmps57
  go_wp2
  clear hmm
  go_loopw [15] (fun i wr => ∃ j : Nat, i = .int .i64 (j : Int) ∧ j ≤ len ∧ Hid (PlR w w.heap.size j ns wr)) (fun i _ => len - (intOf i).toNat)
  case atStart => exact ⟨0, rfl, Nat.zero_le _, HT0⟩
  case round =>
    clear HT0
    obtain ⟨j, rfl, hj, HT⟩ := hrel
    by_cases hlt : j < len
    · have hI := HM.out.kept HT.out.below (Nat.le_refl _)
      obtain rfl : a = some ⟨b, off, none⟩ := hI.addr.resolve_left (by omega)
      have hx : L[j]? = some (L[j]'(by rw [HL.out]; exact hlt)) := List.getElem?_eq_getElem _
      generalize L[j]'(by rw [HL.out]; exact hlt) = x at hx
      have c0 : wr.cell? ⟨b, off + j * 4, none⟩ = some (.string x.p.name) := hI.cell j x hx 0 _ rfl
      have c1 : wr.cell? ⟨b, off + j * 4 + 1, none⟩ = some (.int .i64 x.p.weight) := hI.cell j x hx 1 _ rfl
      have c2 : wr.cell? ⟨b, off + j * 4 + 2, none⟩ = some (x.vv) := hI.cell j x hx 2 _ rfl
      have c3 : wr.cell? ⟨b, off + j * 4 + 3, none⟩ = some (x.sv) := hI.cell j x hx 3 _ rfl
      have hji : (j : Int) < (len : Int) := by omega
      have hj0 : (0 : Int) ≤ (j : Int) := Int.natCast_nonneg j
      have hfit := hI.fits x (List.mem_of_getElem? hx)
      have HFit := Lib.hid hfit
      have HX := Lib.hid (HNx.out j x hx)
      have HB1 : Hid (Below w.heap.size w (wr.alloc (.cells #[.string x.p.name, .int .i64 x.p.weight, x.vv, x.sv] 34))) := Lib.hid (HT.out.below.alloc HT.out.below.size _)
      have HM1 : Hid (PlMap (wr.alloc (.cells #[.string x.p.name, .int .i64 x.p.weight, x.vv, x.sv] 34)) w.heap.size j (fstP (ns.take j))) := Lib.hid (HT.out.map.below ((Below.refl wr.heap.size wr).alloc (Nat.le_refl _) _) HT.out.map.lt)
      have HC1 := Lib.hid (procName_any x (wr.alloc (.cells #[.string x.p.name, .int .i64 x.p.weight, x.vv, x.sv] 34)))
      have HO1 : Hid ((wr.alloc (.cells #[.string x.p.name, .int .i64 x.p.weight, x.vv, x.sv] 34)).heap[wr.heap.size]? = some (.cells #[.string x.p.name, .int .i64 x.p.weight, x.vv, x.sv] 34 (0, 0))) := Lib.hid (heap_new _ rfl)
      have HZ1 : Hid (wr.heap.size < (wr.alloc (.cells #[.string x.p.name, .int .i64 x.p.weight, x.vv, x.sv] 34)).heap.size) := Lib.hid (by simp)
      clear hI hfit hx
      unfold ProcV.vv ProcV.sv at *
      go_wp2_with fail
      refine HC1.out.mono ?_
      rintro e w2 ⟨rfl, hb2⟩
      have HB2 := Lib.hid (HB1.out.trans (hb2.mono HB1.out.size))
      have HM2 : Hid (PlMap w2 w.heap.size j (fstP (ns.take j))) := Lib.hid (HM1.out.below hb2 HM1.out.lt)
      have ho2 := heap_below HO1.out hb2 HZ1.out
      have HO2 := Lib.hid ho2
      have HC2 := Lib.hid (procName_any x w2)
      clear hb2 HC1 HO1 HZ1 HB1 HM1 c0 c1 c2 c3
      rcases hfo : fstP (ns.take j) x.p.name with _ | i0
      · have hlk : (Instr.lookup 81 (.map (some w.heap.size)) (.string x.p.name) true).run Tryz.prog w2 = .ok (.tuple #[.int .i64 0, .bool false]) w2 := by
          have h1 := HM2.out.look_ok Tryz.underlying81 Tryz.underlying9 Tryz.underlying3 (zeroI _) HFit.out
          rw [hfo] at h1
          exact h1
        have HNew : Hid (∀ y, (if y = x.p.name then some j else fstP (ns.take j) y) = fstP (ns.take (j + 1)) y) := Lib.hid (pl_new HX.out (by rw [hfo]; rfl))
        have d0 := heap_cell HO2.out (i := 0) rfl
        have d1 := heap_cell HO2.out (i := 1) rfl
        have d2 := heap_cell HO2.out (i := 2) rfl
        have d3 := heap_cell HO2.out (i := 3) rfl
        simp only [List.getElem_toArray, List.getElem_cons_zero, List.getElem_cons_succ] at d0 d1 d2 d3
        have HLk := Lib.hid hlk
        clear hlk hfo
        go_wp2_with (at_lookup; refine wpList_lookS rfl _ _ _ true rfl _ _ _ rfl rfl HLk.out ?_)
        refine HC2.out.mono ?_
        rintro e w3 ⟨rfl, hb3⟩
        have HB3 := Lib.hid (HB2.out.trans (hb3.mono HB2.out.size))
        have HM3 : Hid (PlMap w3 w.heap.size j (fstP (ns.take j))) := Lib.hid (HM2.out.below hb3 HM2.out.lt)
        clear hb3 HC2 HB2 HM2 HO2 d0 d1 d2 d3
        go_wp2_with (at_mapUpdate; refine wpList_mapUpdate_S rfl _ _ _ 81 rfl 9 3 Tryz.underlying81 Tryz.underlying9 Tryz.underlying3 w.heap.size j _ rfl HM3.out (by unfold maxLen; omega) x.p.name j rfl rfl HFit.out (wf_nat j (by unfold maxLen; omega)) ?_; intro w8 hM8 hg8; have H8 : Hid (PlR w w.heap.size (j + 1) ns w8) := Lib.hid ⟨hM8.congr HNew.out, HB3.out.grown hg8 (by have := HB3.out.size; omega) (fun r e => by cases e; omega)⟩)
        go_roundw
        case rel => exact ⟨j + 1, by go_num, by omega, H8⟩
        case measure => simp [intOf]; omega
      · have hlk : (Instr.lookup 81 (.map (some w.heap.size)) (.string x.p.name) true).run Tryz.prog w2 = .ok (.tuple #[.int .i64 (i0 : Int), .bool true]) w2 := by
          have h1 := HM2.out.look_ok Tryz.underlying81 Tryz.underlying9 Tryz.underlying3 (zeroI _) HFit.out
          rw [hfo] at h1
          exact h1
        have H8 : Hid (PlR w w.heap.size (j + 1) ns w2) := Lib.hid ⟨(HM2.out.congr (pl_there HX.out (by rw [hfo]; rfl))).mono (Nat.le_succ _), HB2.out⟩
        have HLk := Lib.hid hlk
        clear hlk hfo HC2 HO2
        go_wp2_with (at_lookup; refine wpList_lookS rfl _ _ _ true rfl _ _ _ rfl rfl HLk.out ?_)
        go_roundw
        case rel => exact ⟨j + 1, by go_num, by omega, H8⟩
        case measure => simp [intOf]; omega
    · obtain rfl : j = len := by omega
      go_wp2
      go_ret
      exact ⟨_, rfl, Lib.hid (by have := HT.out.map; rw [List.take_of_length_le (by rw [HNl.out]; exact Nat.le_refl _)] at this; rw [HNl.out]; exact this), Nat.le_refl _, Lib.hid HT.out.below⟩

set_option maxRecDepth 100000 in
set_option maxHeartbeats 2000000 in
theorem places_L {w : World} {a : Option Addr} {b off len cap : Nat} {L : List LinkM} (h : RowsAt encL fitL 5 w.heap.size w a b off len L) :
    Calls Tryz.prog 59 #[.slice a len cap, .func (.func 60) #[] #[]] w (PlacesPost (L.map (fun x => x.name)) w) := by
  have HM := Lib.hid h
  have hl := h.length
  have hsm := h.small
  unfold maxLen at hsm
  obtain ⟨ns, hns⟩ : ∃ ns, L.map (fun x => x.name) = ns := ⟨_, rfl⟩
  rw [hns]
  have HNl : Hid (ns.length = len) := Lib.hid (by rw [← hns, List.length_map, hl])
  have HNx : Hid (∀ (j : Nat) (x : LinkM), L[j]? = some x → ns[j]? = some x.name) := Lib.hid (fun j x hx => by rw [← hns, List.getElem?_map, hx]; rfl)
  have HL := Lib.hid hl
  have HT0 : Hid (PlR w w.heap.size 0 ns (w.alloc (.map #[] 0))) := Lib.hid ⟨(MapS.made w Tryz.prog 9 3).congr (fun x => by rw [List.take_zero]; rfl), (Below.refl _ w).alloc (Nat.le_refl _) _⟩
  have hmm := run_makeMap_hint Tryz.underlying81 (len : Int) w
  clear h hl hns
  go_enter Tryz.func59, Tryz.ntmps59
  go_wp2
  clear hmm
  go_loopw [15] (fun i wr => ∃ j : Nat, i = .int .i64 (j : Int) ∧ j ≤ len ∧ Hid (PlR w w.heap.size j ns wr)) (fun i _ => len - (intOf i).toNat)
  case atStart => exact ⟨0, rfl, Nat.zero_le _, HT0⟩
  case round =>
    clear HT0
    obtain ⟨j, rfl, hj, HT⟩ := hrel
    by_cases hlt : j < len
    · have hI := HM.out.kept HT.out.below (Nat.le_refl _)
      obtain rfl : a = some ⟨b, off, none⟩ := hI.addr.resolve_left (by omega)
      have hx : L[j]? = some (L[j]'(by rw [HL.out]; exact hlt)) := List.getElem?_eq_getElem _
      generalize L[j]'(by rw [HL.out]; exact hlt) = x at hx
      have c0 : wr.cell? ⟨b, off + j * 5, none⟩ = some (.string x.name) := hI.cell j x hx 0 _ rfl
      have c1 : wr.cell? ⟨b, off + j * 5 + 1, none⟩ = some (.string x.frm) := hI.cell j x hx 1 _ rfl
      have c2 : wr.cell? ⟨b, off + j * 5 + 2, none⟩ = some (.string x.to_) := hI.cell j x hx 2 _ rfl
      have c3 : wr.cell? ⟨b, off + j * 5 + 3, none⟩ = some (.int .i64 x.delay) := hI.cell j x hx 3 _ rfl
      have c4 : wr.cell? ⟨b, off + j * 5 + 4, none⟩ = some (.int .i64 x.weight) := hI.cell j x hx 4 _ rfl
      have hji : (j : Int) < (len : Int) := by omega
      have hj0 : (0 : Int) ≤ (j : Int) := Int.natCast_nonneg j
      have hfit := hI.fits x (List.mem_of_getElem? hx)
      have HFit := Lib.hid hfit.1
      have HX := Lib.hid (HNx.out j x hx)
      have HB1 : Hid (Below w.heap.size w (wr.alloc (.cells #[.string x.name, .string x.frm, .string x.to_, .int .i64 x.delay, .int .i64 x.weight] 42))) := Lib.hid (HT.out.below.alloc HT.out.below.size _)
      have HM1 : Hid (PlMap (wr.alloc (.cells #[.string x.name, .string x.frm, .string x.to_, .int .i64 x.delay, .int .i64 x.weight] 42)) w.heap.size j (fstP (ns.take j))) := Lib.hid (HT.out.map.below ((Below.refl wr.heap.size wr).alloc (Nat.le_refl _) _) HT.out.map.lt)
      have HC1 := Lib.hid (linkName_any x (wr.alloc (.cells #[.string x.name, .string x.frm, .string x.to_, .int .i64 x.delay, .int .i64 x.weight] 42)))
      have HO1 : Hid ((wr.alloc (.cells #[.string x.name, .string x.frm, .string x.to_, .int .i64 x.delay, .int .i64 x.weight] 42)).heap[wr.heap.size]? = some (.cells #[.string x.name, .string x.frm, .string x.to_, .int .i64 x.delay, .int .i64 x.weight] 42 (0, 0))) := Lib.hid (heap_new _ rfl)
      have HZ1 : Hid (wr.heap.size < (wr.alloc (.cells #[.string x.name, .string x.frm, .string x.to_, .int .i64 x.delay, .int .i64 x.weight] 42)).heap.size) := Lib.hid (by simp)
      clear hI hfit hx
      go_wp2_with fail
      refine HC1.out.mono ?_
      rintro e w2 ⟨rfl, hb2⟩
      have HB2 := Lib.hid (HB1.out.trans (hb2.mono HB1.out.size))
      have HM2 : Hid (PlMap w2 w.heap.size j (fstP (ns.take j))) := Lib.hid (HM1.out.below hb2 HM1.out.lt)
      have ho2 := heap_below HO1.out hb2 HZ1.out
      have HO2 := Lib.hid ho2
      have HC2 := Lib.hid (linkName_any x w2)
      clear hb2 HC1 HO1 HZ1 HB1 HM1 c0 c1 c2 c3 c4
      rcases hfo : fstP (ns.take j) x.name with _ | i0
      · have hlk : (Instr.lookup 81 (.map (some w.heap.size)) (.string x.name) true).run Tryz.prog w2 = .ok (.tuple #[.int .i64 0, .bool false]) w2 := by
          have h1 := HM2.out.look_ok Tryz.underlying81 Tryz.underlying9 Tryz.underlying3 (zeroI _) HFit.out
          rw [hfo] at h1
          exact h1
        have HNew : Hid (∀ y, (if y = x.name then some j else fstP (ns.take j) y) = fstP (ns.take (j + 1)) y) := Lib.hid (pl_new HX.out (by rw [hfo]; rfl))
        have d0 := heap_cell HO2.out (i := 0) rfl
        have d1 := heap_cell HO2.out (i := 1) rfl
        have d2 := heap_cell HO2.out (i := 2) rfl
        have d3 := heap_cell HO2.out (i := 3) rfl
        have d4 := heap_cell HO2.out (i := 4) rfl
        simp only [List.getElem_toArray, List.getElem_cons_zero, List.getElem_cons_succ] at d0 d1 d2 d3 d4
        have HLk := Lib.hid hlk
        clear hlk hfo
        go_wp2_with (at_lookup; refine wpList_lookS rfl _ _ _ true rfl _ _ _ rfl rfl HLk.out ?_)
        refine HC2.out.mono ?_
        rintro e w3 ⟨rfl, hb3⟩
        have HB3 := Lib.hid (HB2.out.trans (hb3.mono HB2.out.size))
        have HM3 : Hid (PlMap w3 w.heap.size j (fstP (ns.take j))) := Lib.hid (HM2.out.below hb3 HM2.out.lt)
        clear hb3 HC2 HB2 HM2 HO2 d0 d1 d2 d3 d4
        go_wp2_with (at_mapUpdate; refine wpList_mapUpdate_S rfl _ _ _ 81 rfl 9 3 Tryz.underlying81 Tryz.underlying9 Tryz.underlying3 w.heap.size j _ rfl HM3.out (by unfold maxLen; omega) x.name j rfl rfl HFit.out (wf_nat j (by unfold maxLen; omega)) ?_; intro w8 hM8 hg8; have H8 : Hid (PlR w w.heap.size (j + 1) ns w8) := Lib.hid ⟨hM8.congr HNew.out, HB3.out.grown hg8 (by have := HB3.out.size; omega) (fun r e => by cases e; omega)⟩)
        go_roundw
        case rel => exact ⟨j + 1, by go_num, by omega, H8⟩
        case measure => simp [intOf]; omega
      · have hlk : (Instr.lookup 81 (.map (some w.heap.size)) (.string x.name) true).run Tryz.prog w2 = .ok (.tuple #[.int .i64 (i0 : Int), .bool true]) w2 := by
          have h1 := HM2.out.look_ok Tryz.underlying81 Tryz.underlying9 Tryz.underlying3 (zeroI _) HFit.out
          rw [hfo] at h1
          exact h1
        have H8 : Hid (PlR w w.heap.size (j + 1) ns w2) := Lib.hid ⟨(HM2.out.congr (pl_there HX.out (by rw [hfo]; rfl))).mono (Nat.le_succ _), HB2.out⟩
        have HLk := Lib.hid hlk
        clear hlk hfo HC2 HO2
        go_wp2_with (at_lookup; refine wpList_lookS rfl _ _ _ true rfl _ _ _ rfl rfl HLk.out ?_)
        go_roundw
        case rel => exact ⟨j + 1, by go_num, by omega, H8⟩
        case measure => simp [intOf]; omega
    · obtain rfl : j = len := by omega
      go_wp2
      go_ret
      exact ⟨_, rfl, Lib.hid (by have := HT.out.map; rw [List.take_of_length_le (by rw [HNl.out]; exact Nat.le_refl _)] at this; rw [HNl.out]; exact this), Nat.le_refl _, Lib.hid HT.out.below⟩

set_option maxRecDepth 100000 in
set_option maxHeartbeats 2000000 in
theorem places_V {w : World} {a : Option Addr} {b off len cap : Nat} {L : List VarM} (h : RowsAt encV fitV 2 w.heap.size w a b off len L) :
    Calls Tryz.prog 98 #[.slice a len cap, .func (.func 99) #[] #[]] w (PlacesPost (L.map (fun x => x.name)) w) := by
  have HM := Lib.hid h
  have hl := h.length
  have hsm := h.small
  unfold maxLen at hsm
  obtain ⟨ns, hns⟩ : ∃ ns, L.map (fun x => x.name) = ns := ⟨_, rfl⟩
  rw [hns]
  have HNl : Hid (ns.length = len) := Lib.hid (by rw [← hns, List.length_map, hl])
  have HNx : Hid (∀ (j : Nat) (x : VarM), L[j]? = some x → ns[j]? = some x.name) := Lib.hid (fun j x hx => by rw [← hns, List.getElem?_map, hx]; rfl)
  have HL := Lib.hid hl
  have HT0 : Hid (PlR w w.heap.size 0 ns (w.alloc (.map #[] 0))) := Lib.hid ⟨(MapS.made w Tryz.prog 9 3).congr (fun x => by rw [List.take_zero]; rfl), (Below.refl _ w).alloc (Nat.le_refl _) _⟩
  have hmm := run_makeMap_hint Tryz.underlying81 (len : Int) w
  clear h hl hns
  go_enter Tryz.func98, Tryz.ntmps98
  go_wp2
  clear hmm
  go_loopw [15] (fun i wr => ∃ j : Nat, i = .int .i64 (j : Int) ∧ j ≤ len ∧ Hid (PlR w w.heap.size j ns wr)) (fun i _ => len - (intOf i).toNat)
  case atStart => exact ⟨0, rfl, Nat.zero_le _, HT0⟩
  case round =>
    clear HT0
    obtain ⟨j, rfl, hj, HT⟩ := hrel
    by_cases hlt : j < len
    · have hI := HM.out.kept HT.out.below (Nat.le_refl _)
      obtain rfl : a = some ⟨b, off, none⟩ := hI.addr.resolve_left (by omega)
      have hx : L[j]? = some (L[j]'(by rw [HL.out]; exact hlt)) := List.getElem?_eq_getElem _
      generalize L[j]'(by rw [HL.out]; exact hlt) = x at hx
      have c0 : wr.cell? ⟨b, off + j * 2, none⟩ = some (.string x.name) := hI.cell j x hx 0 _ rfl
      have c1 : wr.cell? ⟨b, off + j * 2 + 1, none⟩ = some (.int .i64 x.init) := hI.cell j x hx 1 _ rfl
      have hji : (j : Int) < (len : Int) := by omega
      have hj0 : (0 : Int) ≤ (j : Int) := Int.natCast_nonneg j
      have hfit := hI.fits x (List.mem_of_getElem? hx)
      have HFit := Lib.hid hfit
      have HX := Lib.hid (HNx.out j x hx)
      have HB1 : Hid (Below w.heap.size w (wr.alloc (.cells #[.string x.name, .int .i64 x.init] 40))) := Lib.hid (HT.out.below.alloc HT.out.below.size _)
      have HM1 : Hid (PlMap (wr.alloc (.cells #[.string x.name, .int .i64 x.init] 40)) w.heap.size j (fstP (ns.take j))) := Lib.hid (HT.out.map.below ((Below.refl wr.heap.size wr).alloc (Nat.le_refl _) _) HT.out.map.lt)
      have HC1 := Lib.hid (varName_any x (wr.alloc (.cells #[.string x.name, .int .i64 x.init] 40)))
      have HO1 : Hid ((wr.alloc (.cells #[.string x.name, .int .i64 x.init] 40)).heap[wr.heap.size]? = some (.cells #[.string x.name, .int .i64 x.init] 40 (0, 0))) := Lib.hid (heap_new _ rfl)
      have HZ1 : Hid (wr.heap.size < (wr.alloc (.cells #[.string x.name, .int .i64 x.init] 40)).heap.size) := Lib.hid (by simp)
      clear hI hfit hx
      go_wp2_with fail
      refine HC1.out.mono ?_
      rintro e w2 ⟨rfl, hb2⟩
      have HB2 := Lib.hid (HB1.out.trans (hb2.mono HB1.out.size))
      have HM2 : Hid (PlMap w2 w.heap.size j (fstP (ns.take j))) := Lib.hid (HM1.out.below hb2 HM1.out.lt)
      have ho2 := heap_below HO1.out hb2 HZ1.out
      have HO2 := Lib.hid ho2
      have HC2 := Lib.hid (varName_any x w2)
      clear hb2 HC1 HO1 HZ1 HB1 HM1 c0 c1
      rcases hfo : fstP (ns.take j) x.name with _ | i0
      · have hlk : (Instr.lookup 81 (.map (some w.heap.size)) (.string x.name) true).run Tryz.prog w2 = .ok (.tuple #[.int .i64 0, .bool false]) w2 := by
          have h1 := HM2.out.look_ok Tryz.underlying81 Tryz.underlying9 Tryz.underlying3 (zeroI _) HFit.out
          rw [hfo] at h1
          exact h1
        have HNew : Hid (∀ y, (if y = x.name then some j else fstP (ns.take j) y) = fstP (ns.take (j + 1)) y) := Lib.hid (pl_new HX.out (by rw [hfo]; rfl))
        have d0 := heap_cell HO2.out (i := 0) rfl
        have d1 := heap_cell HO2.out (i := 1) rfl
        simp only [List.getElem_toArray, List.getElem_cons_zero, List.getElem_cons_succ] at d0 d1
        have HLk := Lib.hid hlk
        clear hlk hfo
        go_wp2_with (at_lookup; refine wpList_lookS rfl _ _ _ true rfl _ _ _ rfl rfl HLk.out ?_)
        refine HC2.out.mono ?_
        rintro e w3 ⟨rfl, hb3⟩
        have HB3 := Lib.hid (HB2.out.trans (hb3.mono HB2.out.size))
        have HM3 : Hid (PlMap w3 w.heap.size j (fstP (ns.take j))) := Lib.hid (HM2.out.below hb3 HM2.out.lt)
        clear hb3 HC2 HB2 HM2 HO2 d0 d1
        go_wp2_with (at_mapUpdate; refine wpList_mapUpdate_S rfl _ _ _ 81 rfl 9 3 Tryz.underlying81 Tryz.underlying9 Tryz.underlying3 w.heap.size j _ rfl HM3.out (by unfold maxLen; omega) x.name j rfl rfl HFit.out (wf_nat j (by unfold maxLen; omega)) ?_; intro w8 hM8 hg8; have H8 : Hid (PlR w w.heap.size (j + 1) ns w8) := Lib.hid ⟨hM8.congr HNew.out, HB3.out.grown hg8 (by have := HB3.out.size; omega) (fun r e => by cases e; omega)⟩)
        go_roundw
        case rel => exact ⟨j + 1, by go_num, by omega, H8⟩
        case measure => simp [intOf]; omega
      · have hlk : (Instr.lookup 81 (.map (some w.heap.size)) (.string x.name) true).run Tryz.prog w2 = .ok (.tuple #[.int .i64 (i0 : Int), .bool true]) w2 := by
          have h1 := HM2.out.look_ok Tryz.underlying81 Tryz.underlying9 Tryz.underlying3 (zeroI _) HFit.out
          rw [hfo] at h1
          exact h1
        have H8 : Hid (PlR w w.heap.size (j + 1) ns w2) := Lib.hid ⟨(HM2.out.congr (pl_there HX.out (by rw [hfo]; rfl))).mono (Nat.le_succ _), HB2.out⟩
        have HLk := Lib.hid hlk
        clear hlk hfo HC2 HO2
        go_wp2_with (at_lookup; refine wpList_lookS rfl _ _ _ true rfl _ _ _ rfl rfl HLk.out ?_)
        go_roundw
        case rel => exact ⟨j + 1, by go_num, by omega, H8⟩
        case measure => simp [intOf]; omega
    · obtain rfl : j = len := by omega
      go_wp2
      go_ret
      exact ⟨_, rfl, Lib.hid (by have := HT.out.map; rw [List.take_of_length_le (by rw [HNl.out]; exact Nat.le_refl _)] at this; rw [HNl.out]; exact this), Nat.le_refl _, Lib.hid HT.out.below⟩

end Go.Proofs.YtjcmeacgfflfmaaGreat.Md
