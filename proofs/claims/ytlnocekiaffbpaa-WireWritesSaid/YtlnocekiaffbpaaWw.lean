/- The walk of WireWrites. -/
import Derived.Test.YtlnocekiaffbpaaWx
set_option linter.unusedVariables false
namespace Go.Proofs.Ytlnocekiaffbpaa
open Go.RowKit

theorem strCells_ivals (s : ByteArray) : Lib.strCells s = ivals .u8 (strI s) := by
  unfold Lib.strCells ivals strI
  rw [List.map_map]; rfl
theorem pair_new (w W : World) (N : Nat) (hB : Below w.heap.size w W) (hN : N = W.heap.size) :
    PairH w N (.slice (some ⟨W.heap.size + 1, 0, none⟩) 0 0) [] [] ((W.alloc (.cells #[.pointer none, .int .i64 0] 27)).alloc (.cells #[] 5)) := by
  subst hN
  have hb1 : Below W.heap.size W (W.alloc (.cells #[.pointer none, .int .i64 0] 27)) := (Below.refl _ _).alloc (Nat.le_refl _) _
  have hs1 : (W.alloc (.cells #[.pointer none, .int .i64 0] 27)).heap.size = W.heap.size + 1 := by simp
  refine ⟨⟨fun _ => False, (wis_new _ W _ rfl (fun h => h)).stay (Stay.below ((Below.refl _ _).alloc (Nat.le_refl _) _)), fun _ _ h => h, fun _ h => h.elim⟩, ?_, ⟨_, rfl⟩, ?_, ?_, hB.size⟩
  · have := World.ownsRow_made (base := w.heap.size) (e := 5) (size := 1) (W.alloc (.cells #[.pointer none, .int .i64 0] 27)) #[] 0 (by rw [hs1]; have := hB.size; omega) (Nat.zero_le _) rfl
    rw [hs1] at this
    exact this
  · intro e
    simp [Value.ownBlock] at e
  · exact (hB.trans (hb1.mono hB.size)).trans (((Below.refl _ _).alloc (Nat.le_refl _) _).mono (by have := hB.size; omega))
/-- A slot's struct stays. -/
theorem op_box {w : World} {g : Nat} {kind n : Int} {s : ByteArray} (h : w.heap[g]? = some (.cells #[.int .i64 kind, .int .i64 n, .string s] 30 (0, 0))) :
    w.cell? ⟨g, 1, none⟩ = some (.int .i64 n) ∧ w.cell? ⟨g, 2, none⟩ = some (.string s) := ⟨heap_cell h rfl, heap_cell h rfl⟩

theorem text_wf (s : ByteArray) (hs : s.size ≤ 60) : ∀ x ∈ putF s.size ++ strI s, (Lit.int .u8 x).wf = true := by
  intro x hx
  rcases List.mem_append.1 hx with h | h
  · exact put_wf s.size (by omega) x h
  · exact strI_wf s x h
theorem Gath.nilcap3 {w : World} {base : Nat} {e : TypeId} {size : Nat} {a : Option Addr} {n cap : Nat} {k : Nat} {xs : List Value} (h : Gath w base e size (.slice a k cap) n xs) : a = none → k = 0 ∧ cap = 0 := by
  rintro rfl
  rcases h with ⟨_, _, ao, h⟩ | h
  · cases h; exact ⟨rfl, rfl⟩
  · rcases h.2 with ⟨h, _⟩ | ⟨g, c, cur, h, _⟩
    · cases h; exact ⟨rfl, rfl⟩
    · cases h
set_option maxRecDepth 100000 in
set_option maxHeartbeats 4000000 in
theorem walk_WireWrites (a0 : Option Addr) (len0 cap0 : Nat) (z0 : List OpV) (w : World) (w0 : IsOps w a0 len0 cap0 z0) :
    Calls Try.prog 3 #[.slice a0 len0 cap0] w fun e w' => e = .returned (.bool true) ∧ Below w.heap.size w w' := by
  obtain ⟨hc0, b0, off0, h0⟩ := w0
  have H0 := Lib.hid (fun W (hb : Below w.heap.size w W) => few_any W a0 b0 off0 len0 cap0 z0 (h0.now hb) hc0)
  have H1 := Lib.hid h0
  obtain ⟨i0, hi, hz0, hz1, hz2⟩ := info_parts Try.infoU8
  have HI := Lib.hid hi
  have HZ0 := Lib.hid hz0
  have HZ1 := Lib.hid hz1
  have HZ2 := Lib.hid hz2
  clear hi hz0 hz1 hz2 h0
  go_enter Try.func3, Try.ntmps3
  go_wp2_with fail
  refine (walive_any _).mono ?_
  rintro e w2 ⟨rfl, hB2⟩
  have HB2 := Lib.hid hB2
  clear hB2
  go_wp2_with fail
  refine (H0.out _ HB2.out).mono ?_
  rintro e w3 ⟨hf0 | rfl, hB⟩
  rotate_left
  · have HB3 := Lib.hid (HB2.out.trans (hB.mono HB2.out.size))
    clear hB
    go_wp2
    go_ret
    exact ⟨rfl, HB3.out⟩
  obtain ⟨rfl, hf0⟩ := hf0
  have HB3 := Lib.hid (HB2.out.trans (hB.mono HB2.out.size))
  have HF0 := Lib.hid hf0
  have hl40 : len0 ≤ 40 := by have := H1.out.length; have := hf0.2; omega
  clear hB hf0 H0 HB2
  have HP := Lib.hid (pair_new w w3 w3.heap.size HB3.out rfl)
  go_wp2
  go_loopw [4, 15] (fun v i wr => ∃ (vv : Value) (k : Nat) (done : List Int), vv = v ∧ k ≤ len0 ∧ i = .int .i64 k ∧ Hid (PairH w w3.heap.size vv done done wr) ∧ done.length ≤ 70 * k) (fun _ i _ => len0 - (intOf i).toNat)
  case atStart => exact ⟨_, 0, [], rfl, Nat.zero_le _, rfl, HP, by simp⟩
  case round =>
    obtain ⟨vv, k, done, rfl, hk, rfl, hp, hdl⟩ := hrel
    clear HP
    by_cases hlt : k < len0
    · obtain ⟨o, ho, hmem⟩ := nth_op H1.out.length hlt
      obtain ⟨c0, c1, c2⟩ := (H1.out.kept hp.out.below (Nat.le_refl _)).cell k o ho
      have hss := HF0.out.1 o hmem
      obtain ⟨-, ⟨hn0, hn1⟩, -⟩ := H1.out.ok o hmem
      have hblk : b0 < wr.heap.size := by have := H1.out.below; have := hp.out.below.size; omega
      obtain rfl : a0 = some ⟨b0, off0, none⟩ := H1.out.addr.resolve_left (by omega)
      clear ho hmem
      obtain ⟨kind, n, s⟩ := o
      simp only at c0 c1 c2 hss hn0 hn1
      have hba : Below wr.heap.size wr (wr.alloc (.cells #[.int .i64 kind, .int .i64 n, .string s] 30)) := (Below.refl _ _).alloc (Nat.le_refl _) _
      have HPA := Lib.hid (hp.out.new hba)
      have HOB : Hid ((wr.alloc (.cells #[.int .i64 kind, .int .i64 n, .string s] 30)).heap[wr.heap.size]? = some (.cells #[.int .i64 kind, .int .i64 n, .string s] 30 (0, 0))) := Lib.hid (heap_new _ rfl)
      have hNlt : w3.heap.size < wr.heap.size := by obtain ⟨S, hw, _⟩ := hp.out.wr; exact hw.lt
      obtain ⟨S, hw, hS, hfin⟩ := HPA.out.open
      have HW := Lib.hid hw
      have HS := Lib.hid hS
      have HFIN := Lib.hid hfin
      obtain ⟨dl, hdl2⟩ : ∃ dl, done.length = dl := ⟨_, rfl⟩
      have HDL := Lib.hid hdl2
      rw [hdl2] at hdl
      clear hp hba hw hS hfin hdl2
      by_cases k0 : kind = 0
      · have hb0 : (kind == 0) = true := by simp [k0]
        have HC := Lib.hid (wfixed_any S _ _ _ (n % 4294967296) (by omega) (by omega) HW.out HS.out (by rw [HDL.out]; omega))
        clear k0
        go_wp2_with fail
        refine HC.out.mono ?_
        rintro e w4 ⟨rfl, hw4, hg4⟩
        have HP4 := Lib.hid (HFIN.out _ _ hw4 hg4)
        have hob := heap_kept HOB.out hg4 (fun e => by have := Option.some.inj e; omega)
        have HOB4 := Lib.hid hob
        have hlt4 : wr.heap.size < w4.heap.size := heap_lt hob
        obtain ⟨d1, d2⟩ := op_box hob
        clear hw4 hg4 hob
        go_wp2_with fail
        refine (rfix3_any (n % 4294967296) w4 (by omega) (by omega)).mono ?_
        rintro e w5 ⟨v5, rfl, hg5, hB5⟩
        obtain ⟨a5, cap5, b5, rfl, hc1, hc2, hb5, HI5⟩ := hg5.ints rfl (fixF_wf _)
        have HP5 := Lib.hid (HP4.out.new hB5)
        obtain ⟨xl, hxl⟩ : ∃ xl, (fixF (n % 4294967296)).length = xl := ⟨_, rfl⟩
        have hx70 : xl ≤ 70 := by rw [← hxl]; exact (by rw [fixF_length]; decide)
        have hnil5 : a5 = none → xl = 0 ∧ cap5 = 0 := by intro e; rw [← hxl]; exact hg5.nilcap3 e
        rw [hxl] at HI5 hc1 ⊢
        have HXL := Lib.hid hxl
        have HI6 := Lib.hid (And.intro HI5 hnil5)
        have hwb := HP5.out.below.size
        have HOWN : Hid (w5.ownsRow w.heap.size 5 1 vv dl (ivals .u8 done)) := Lib.hid (by rw [← HDL.out]; exact HP5.out.own)
        clear hg5 hB5 hb5 HI5 hc2 hnil5 hxl d1 d2
        go_wp2_with (at_builtin; refine wpList_append_ints_at _ rfl _ _ 28 rfl w.heap.size 5 i0 (.int .u8 0) 1 Try.underlying28 HI.out HZ0.out HZ1.out HZ2.out rfl vv dl _ rfl HOWN.out .u8 w5.heap.size w5.heap.size w5 a5 b5 0 xl cap5 (fixF (n % 4294967296)) rfl HI6.out.2 HI6.out.1 (Below.refl _ _) (Nat.le_refl _) (by unfold maxLen; omega) (by omega) hwb ?_; intro v' w6 hown6 hgr6 hat6)
        go_roundw
        case rel =>
          refine ⟨_, k + 1, done ++ (fixF (n % 4294967296)), rfl, by omega, by go_num, Lib.hid (HP5.out.appended (by rw [HDL.out, HXL.out]; exact hown6) hgr6 hat6), ?_⟩
          rw [List.length_append, HDL.out, HXL.out]; omega
        case measure => simp [intOf]; omega
      have hb0 : (kind == 0) = false := by simp [k0]
      by_cases k1 : kind = 1
      · have hb1 : (kind == 1) = true := by simp [k1]
        have HC := Lib.hid (wcount_any S _ _ _ n (max n 0).toNat (by omega) (by omega) (by omega) HW.out HS.out (by rw [HDL.out]; omega))
        clear k0 k1
        go_wp2_with fail
        refine HC.out.mono ?_
        rintro e w4 ⟨rfl, hw4, hg4⟩
        have HP4 := Lib.hid (HFIN.out _ _ hw4 hg4)
        have hob := heap_kept HOB.out hg4 (fun e => by have := Option.some.inj e; omega)
        have HOB4 := Lib.hid hob
        have hlt4 : wr.heap.size < w4.heap.size := heap_lt hob
        obtain ⟨d1, d2⟩ := op_box hob
        clear hw4 hg4 hob
        obtain ⟨m, hm⟩ : ∃ m : Nat, max n 0 = (m : Int) := ⟨(max n 0).toNat, by omega⟩
        have hmb : m ≤ 9223372036854775807 := by omega
        have hmt : (max n 0).toNat = m := by omega
        rw [hmt] at HP4
        clear hmt
        go_wp2_with fail
        refine (rput_any m w4 (by omega)).mono ?_
        rintro e w5 ⟨v5, rfl, hg5, hB5⟩
        obtain ⟨a5, cap5, b5, rfl, hc1, hc2, hb5, HI5⟩ := hg5.ints rfl (put_wf m (by omega))
        have HP5 := Lib.hid (HP4.out.new hB5)
        obtain ⟨xl, hxl⟩ : ∃ xl, (putF m).length = xl := ⟨_, rfl⟩
        have hx70 : xl ≤ 70 := by rw [← hxl]; exact Nat.le_trans (putL_length 9 m).2 (by decide)
        have hnil5 : a5 = none → xl = 0 ∧ cap5 = 0 := by intro e; rw [← hxl]; exact hg5.nilcap3 e
        rw [hxl] at HI5 hc1 ⊢
        have HXL := Lib.hid hxl
        have HI6 := Lib.hid (And.intro HI5 hnil5)
        have hwb := HP5.out.below.size
        have HOWN : Hid (w5.ownsRow w.heap.size 5 1 vv dl (ivals .u8 done)) := Lib.hid (by rw [← HDL.out]; exact HP5.out.own)
        clear hg5 hB5 hb5 HI5 hc2 hnil5 hxl d1 d2
        go_wp2_with (at_builtin; refine wpList_append_ints_at _ rfl _ _ 28 rfl w.heap.size 5 i0 (.int .u8 0) 1 Try.underlying28 HI.out HZ0.out HZ1.out HZ2.out rfl vv dl _ rfl HOWN.out .u8 w5.heap.size w5.heap.size w5 a5 b5 0 xl cap5 (putF m) rfl HI6.out.2 HI6.out.1 (Below.refl _ _) (Nat.le_refl _) (by unfold maxLen; omega) (by omega) hwb ?_; intro v' w6 hown6 hgr6 hat6)
        go_roundw
        case rel =>
          refine ⟨_, k + 1, done ++ (putF m), rfl, by omega, by go_num, Lib.hid (HP5.out.appended (by rw [HDL.out, HXL.out]; exact hown6) hgr6 hat6), ?_⟩
          rw [List.length_append, HDL.out, HXL.out]; omega
        case measure => simp [intOf]; omega
      have hb1 : (kind == 1) = false := by simp [k1]
      by_cases k2 : kind = 2
      · have hb2 : (kind == 2) = true := by simp [k2]
        have HC := Lib.hid (wnum_any S _ _ _ n (foldF n).toNat (by have := (fold_bd hn0 hn1).1; omega) (by omega) (by omega) HW.out HS.out (by rw [HDL.out]; omega))
        clear k0 k1 k2
        go_wp2_with fail
        refine HC.out.mono ?_
        rintro e w4 ⟨rfl, hw4, hg4⟩
        have HP4 := Lib.hid (HFIN.out _ _ hw4 hg4)
        have hob := heap_kept HOB.out hg4 (fun e => by have := Option.some.inj e; omega)
        have HOB4 := Lib.hid hob
        have hlt4 : wr.heap.size < w4.heap.size := heap_lt hob
        obtain ⟨d1, d2⟩ := op_box hob
        clear hw4 hg4 hob
        obtain ⟨m, hm⟩ : ∃ m : Nat, foldF n = (m : Int) := ⟨(foldF n).toNat, by have := (fold_bd hn0 hn1).1; omega⟩
        have hmb : m ≤ 18446744073709551615 := by have := (fold_bd hn0 hn1).2; omega
        have hmt : (foldF n).toNat = m := by omega
        rw [hmt] at HP4
        have HRF := Lib.hid (fun W => rfold_any n W hn0 hn1)
        rw [hm] at HRF
        clear hmt hm
        go_wp2_with fail
        refine (HRF.out _).mono ?_
        rintro e w5 ⟨rfl, rfl⟩
        go_wp2_with fail
        refine (rput_any m w4 hmb).mono ?_
        rintro e w5 ⟨v5, rfl, hg5, hB5⟩
        obtain ⟨a5, cap5, b5, rfl, hc1, hc2, hb5, HI5⟩ := hg5.ints rfl (put_wf m hmb)
        have HP5 := Lib.hid (HP4.out.new hB5)
        obtain ⟨xl, hxl⟩ : ∃ xl, (putF m).length = xl := ⟨_, rfl⟩
        have hx70 : xl ≤ 70 := by rw [← hxl]; exact Nat.le_trans (putL_length 9 m).2 (by decide)
        have hnil5 : a5 = none → xl = 0 ∧ cap5 = 0 := by intro e; rw [← hxl]; exact hg5.nilcap3 e
        rw [hxl] at HI5 hc1 ⊢
        have HXL := Lib.hid hxl
        have HI6 := Lib.hid (And.intro HI5 hnil5)
        have hwb := HP5.out.below.size
        have HOWN : Hid (w5.ownsRow w.heap.size 5 1 vv dl (ivals .u8 done)) := Lib.hid (by rw [← HDL.out]; exact HP5.out.own)
        clear hg5 hB5 hb5 HI5 hc2 hnil5 hxl d1 d2
        go_wp2_with (at_builtin; refine wpList_append_ints_at _ rfl _ _ 28 rfl w.heap.size 5 i0 (.int .u8 0) 1 Try.underlying28 HI.out HZ0.out HZ1.out HZ2.out rfl vv dl _ rfl HOWN.out .u8 w5.heap.size w5.heap.size w5 a5 b5 0 xl cap5 (putF m) rfl HI6.out.2 HI6.out.1 (Below.refl _ _) (Nat.le_refl _) (by unfold maxLen; omega) (by omega) hwb ?_; intro v' w6 hown6 hgr6 hat6)
        go_roundw
        case rel =>
          refine ⟨_, k + 1, done ++ (putF m), rfl, by omega, by go_num, Lib.hid (HP5.out.appended (by rw [HDL.out, HXL.out]; exact hown6) hgr6 hat6), ?_⟩
          rw [List.length_append, HDL.out, HXL.out]; omega
        case measure => simp [intOf]; omega
      have hb2 : (kind == 2) = false := by simp [k2]
      by_cases k3 : kind = 3
      · have hb3 : (kind == 3) = true := by simp [k3]
        have HC := Lib.hid (wtext_any S _ _ _ s (by omega) HW.out HS.out (by rw [HDL.out]; omega))
        clear k0 k1 k2 k3
        go_wp2_with fail
        refine HC.out.mono ?_
        rintro e w4 ⟨rfl, hw4, hg4⟩
        have HP4 := Lib.hid (HFIN.out _ _ hw4 hg4)
        have hob := heap_kept HOB.out hg4 (fun e => by have := Option.some.inj e; omega)
        have HOB4 := Lib.hid hob
        have hlt4 : wr.heap.size < w4.heap.size := heap_lt hob
        obtain ⟨d1, d2⟩ := op_box hob
        clear hw4 hg4 hob
        go_wp2_with fail
        refine (rtext3_any s w4 (by omega)).mono ?_
        rintro e w5 ⟨v5, rfl, hg5, hB5⟩
        obtain ⟨a5, cap5, b5, rfl, hc1, hc2, hb5, HI5⟩ := hg5.ints rfl (text_wf s hss)
        have HP5 := Lib.hid (HP4.out.new hB5)
        obtain ⟨xl, hxl⟩ : ∃ xl, (putF s.size ++ strI s).length = xl := ⟨_, rfl⟩
        have hx70 : xl ≤ 70 := by rw [← hxl]; exact (by rw [List.length_append, strI_length]; have := (putL_length 9 s.size).2; unfold putF; omega)
        have hnil5 : a5 = none → xl = 0 ∧ cap5 = 0 := by intro e; rw [← hxl]; exact hg5.nilcap3 e
        rw [hxl] at HI5 hc1 ⊢
        have HXL := Lib.hid hxl
        have HI6 := Lib.hid (And.intro HI5 hnil5)
        have hwb := HP5.out.below.size
        have HOWN : Hid (w5.ownsRow w.heap.size 5 1 vv dl (ivals .u8 done)) := Lib.hid (by rw [← HDL.out]; exact HP5.out.own)
        clear hg5 hB5 hb5 HI5 hc2 hnil5 hxl d1 d2
        go_wp2_with (at_builtin; refine wpList_append_ints_at _ rfl _ _ 28 rfl w.heap.size 5 i0 (.int .u8 0) 1 Try.underlying28 HI.out HZ0.out HZ1.out HZ2.out rfl vv dl _ rfl HOWN.out .u8 w5.heap.size w5.heap.size w5 a5 b5 0 xl cap5 (putF s.size ++ strI s) rfl HI6.out.2 HI6.out.1 (Below.refl _ _) (Nat.le_refl _) (by unfold maxLen; omega) (by omega) hwb ?_; intro v' w6 hown6 hgr6 hat6)
        go_roundw
        case rel =>
          refine ⟨_, k + 1, done ++ (putF s.size ++ strI s), rfl, by omega, by go_num, Lib.hid (HP5.out.appended (by rw [HDL.out, HXL.out]; exact hown6) hgr6 hat6), ?_⟩
          rw [List.length_append, HDL.out, HXL.out]; omega
        case measure => simp [intOf]; omega
      have hb3 : (kind == 3) = false := by simp [k3]
      by_cases k4 : kind = 4
      · have hb4 : (kind == 4) = true := by simp [k4]
        obtain ⟨bc, wb, hconv, hbc, hIb, hBb⟩ := bytes_of (wr.alloc (.cells #[.int .i64 kind, .int .i64 n, .string s] 30)) s (by unfold maxLen; omega)
        have HPB := Lib.hid (HPA.out.new hBb)
        obtain ⟨S2, hw2, hS2, hfin2⟩ := HPB.out.open
        have HC := wraw_any S2 wb w3.heap.size done (strI s) wb.heap.size (some ⟨(wr.alloc (.cells #[.int .i64 kind, .int .i64 n, .string s] 30)).heap.size, 0, none⟩) (wr.alloc (.cells #[.int .i64 kind, .int .i64 n, .string s] 30)).heap.size 0 bc (by rw [strI_length]; exact hIb) (fun h => by cases h) (by rw [strI_length]; omega) hw2 hS2 (by rw [HDL.out]; omega)
        rw [strI_length, show (wr.alloc (.cells #[.int .i64 kind, .int .i64 n, .string s] 30)).heap.size = wr.heap.size + 1 by simp] at HC
        have HC2 := Lib.hid HC
        have HFIN2 := Lib.hid hfin2
        have HOBB := Lib.hid (heap_below HOB.out hBb (heap_lt HOB.out))
        clear k0 k1 k2 k3 k4 hIb hBb hw2 HC hbc hS2 hfin2
        go_wp2_with fail
        refine HC2.out.mono ?_
        rintro e w4 ⟨rfl, hw4, hg4⟩
        have HP4 := Lib.hid (HFIN2.out _ _ hw4 hg4)
        have hob := heap_kept HOBB.out hg4 (fun e => by have := Option.some.inj e; omega)
        have hlt4 : wr.heap.size < w4.heap.size := heap_lt hob
        obtain ⟨d1, d2⟩ := op_box hob
        have hwb := HP4.out.below.size
        have HOWN : Hid (w4.ownsRow w.heap.size 5 1 vv dl (ivals .u8 done)) := Lib.hid (by rw [← HDL.out]; exact HP4.out.own)
        have HNN : Hid (vv ≠ .slice none 0 0) := Lib.hid (fun e => by obtain ⟨g, hg⟩ := HP4.out.nn; rw [e] at hg; cases hg)
        clear hw4 hg4 hob
        go_wp2_with (at_builtin; refine wpList_append_str_at _ rfl _ _ 28 9 rfl w.heap.size 5 i0 Try.underlying28 Try.underlying9 HI.out HZ0.out HZ1.out HZ2.out vv dl _ rfl HOWN.out HNN.out s rfl (by unfold maxLen; omega) (by omega) hwb ?_; intro v' w6 hown6 hgr6 hat6)
        go_roundw
        case rel =>
          refine ⟨_, k + 1, done ++ strI s, rfl, by omega, by go_num, Lib.hid (HP4.out.appended (by rw [HDL.out, strI_length, ← strCells_ivals]; exact hown6) hgr6 hat6), ?_⟩
          rw [List.length_append, HDL.out, strI_length]; omega
        case measure => simp [intOf]; omega
      have hb4 : (kind == 4) = false := by simp [k4]
      clear k0 k1 k2 k3 k4
      go_wp2
      go_roundw
      case rel => exact ⟨_, k + 1, done, rfl, by omega, by go_num, HPA, by rw [HDL.out]; omega⟩
      case measure => simp [intOf]; omega
    · obtain rfl : k = len0 := by omega
      obtain ⟨S, hw, hS, hfin⟩ := hp.out.open
      have HD := Lib.hid (wdone_any S wr _ done hw (by omega))
      obtain ⟨dl, hdl2⟩ : ∃ dl, done.length = dl := ⟨_, rfl⟩
      have HDL := Lib.hid hdl2
      rw [hdl2] at hdl
      clear hw hS hfin hdl2
      go_wp2_with fail
      refine HD.out.mono ?_
      rintro e w4 ⟨he, hheap, hwf, hB⟩
      rw [HDL.out] at he
      subst he
      have HP4 := hp.out.new hB
      have hI := whole_ints hheap hwf (by rw [HDL.out]; unfold maxLen; omega)
      obtain ⟨a5, cap5, b5, rfl, hc1, hc2, hb5, HI5⟩ := Gath.ints (.inr HP4.own) rfl hwf
      rw [HDL.out] at hI HI5 ⊢
      have HSAME := Lib.hid (same_yes hI HI5 dl cap5)
      have HBE := Lib.hid HP4.below
      clear hB hheap hwf HP4 hI HI5 hc1 hc2 hb5
      go_wp2_with fail
      refine HSAME.out.mono ?_
      rintro e w5 ⟨rfl, rfl⟩
      go_wp2
      go_ret
      exact ⟨rfl, HBE.out⟩
end Go.Proofs.Ytlnocekiaffbpaa
