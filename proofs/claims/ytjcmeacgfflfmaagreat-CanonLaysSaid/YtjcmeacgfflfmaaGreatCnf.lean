/- canon's law: the example; contracts of it. canon's law: alive. -/
import Derived.Test.YtjcmeacgfflfmaaGreatCnc
import Derived.Test.YtjcmeacgfflfmaaGreatCnd
set_option linter.unusedVariables false
set_option linter.unusedSectionVars false
set_option linter.unusedSimpArgs false
namespace Go.Proofs.YtjcmeacgfflfmaaGreat.Hk
open Go.RowKit Go.Shelf Go.Proofs.YtjcmeacgfflfmaaGreat.Md

def tA : ByteArray := ⟨#[97]⟩
def tB : ByteArray := ⟨#[98]⟩
def tL : ByteArray := ⟨#[108]⟩
def tX : ByteArray := ⟨#[120]⟩
def tY : ByteArray := ⟨#[121]⟩
def smV (N : Nat) : ModelV := ⟨3, [⟨⟨tB, 2, [], []⟩, none, 0, 0, 0, none, 0, 0, 0⟩, ⟨⟨tA, 1, [⟨tY, 0⟩, ⟨tX, 0⟩], []⟩, some ⟨N + 1, 0, none⟩, N + 1, 0, 2, none, 0, 0, 0⟩], [⟨tL, tA, tB, 5, 4⟩], [⟨tB, 1, 0⟩, ⟨tA, 1, 0⟩], some ⟨N + 1 + 1, 0, none⟩, N + 1 + 1, 0, 2, some ⟨N + 1 + 1 + 1, 0, none⟩, N + 1 + 1 + 1, 0, 1, some ⟨N + 1 + 1 + 1 + 1, 0, none⟩, N + 1 + 1 + 1 + 1, 0, 2⟩
def smM : ModelM := ⟨3, [⟨tB, 2, [], []⟩, ⟨tA, 1, [⟨tY, 0⟩, ⟨tX, 0⟩], []⟩], [⟨tL, tA, tB, 5, 4⟩], [⟨tB, 1, 0⟩, ⟨tA, 1, 0⟩]⟩
def smC : ModelM := ⟨3, [⟨tA, 1, [⟨tX, 0⟩, ⟨tY, 0⟩], []⟩, ⟨tB, 2, [], []⟩], [⟨tL, tA, tB, 5, 4⟩], [⟨tA, 1, 0⟩, ⟨tB, 1, 0⟩]⟩
theorem smV_m (N : Nat) : (smV N).m = smM := rfl
theorem sm_can : canM smM = smC := by kernel_rfl
theorem sm_can2 : canM smC = smC := by kernel_rfl
theorem sm_right : (mdE smM).1 = 0 := by kernel_rfl
theorem sm_tab : btw 2 (tabM smM 1) 0 1 = 4 := by kernel_rfl
theorem sm_ne : smM ≠ smC := fun e => by
  have h1 : (smM.procs.map (fun p => p.weight)) = smC.procs.map (fun p => p.weight) := by rw [e]
  revert h1
  decide
theorem sm_none : (mdE ⟨0, [], [], []⟩).1 = 43 := by kernel_rfl
theorem sm_sized : Sized smM := ⟨by show 2 ≤ 20000; decide, by show 1 ≤ 20000; decide, by show 2 ≤ 20000; decide, fun p hp => by
  simp only [smM, List.mem_cons, List.not_mem_nil, or_false] at hp
  rcases hp with rfl | rfl
  · exact ⟨by show 0 ≤ 20000; decide, by show 0 ≤ 20000; decide⟩
  · exact ⟨by show 2 ≤ 20000; decide, by show 0 ≤ 20000; decide⟩⟩
theorem smV_at {N : Nat} {W : World} (h1 : W.heap[N + 1]? = some (.cells #[.string ⟨#[121]⟩, .int .i64 0, .string ⟨#[120]⟩, .int .i64 0] 40 (0, 0))) (h2 : W.heap[N + 1 + 1]? = some (.cells #[.string ⟨#[98]⟩, .int .i64 2, .slice none 0 0, .slice none 0 0, .string ⟨#[97]⟩, .int .i64 1, .slice (some ⟨N + 1, 0, none⟩) 2 2, .slice none 0 0] 34 (0, 0))) (h3 : W.heap[N + 1 + 1 + 1]? = some (.cells #[.string ⟨#[108]⟩, .string ⟨#[97]⟩, .string ⟨#[98]⟩, .int .i64 5, .int .i64 4] 42 (0, 0))) (h4 : W.heap[N + 1 + 1 + 1 + 1]? = some (.cells #[.string ⟨#[98]⟩, .int .i64 1, .int .i64 0, .string ⟨#[97]⟩, .int .i64 1, .int .i64 0] 57 (0, 0))) : ModelAt W.heap.size W (smV N) := by
  have hs : ∀ y : ByteArray, y ∈ [tA, tB, tL, tX, tY] → y.size ≤ maxLen := by
    intro y hy
    simp only [List.mem_cons, List.not_mem_nil, or_false] at hy
    rcases hy with rfl | rfl | rfl | rfl | rfl <;> (show 1 ≤ maxLen; decide)
  refine ⟨rows_block (enc := Md.encP) (L := (smV N).procs) (fun _ => rfl) h2 rfl (by show 2 ≤ maxLen; decide) (fun p hp => ?_) rfl, fun p hp => ?_, rows_block (enc := encL) (L := (smV N).links) (fun _ => rfl) h3 rfl (by show 1 ≤ maxLen; decide) (fun p hp => ?_) rfl, rows_block (enc := encE) (L := (smV N).events) (fun _ => rfl) h4 rfl (by show 2 ≤ maxLen; decide) (fun p hp => ?_) rfl⟩
  · simp only [smV, List.mem_cons, List.not_mem_nil, or_false] at hp
    rcases hp with rfl | rfl
    · exact hs tB (by simp)
    · exact hs tA (by simp)
  · simp only [smV, List.mem_cons, List.not_mem_nil, or_false] at hp
    rcases hp with rfl | rfl
    · exact ⟨RowsAt.nil rfl rfl, RowsAt.nil rfl rfl⟩
    · refine ⟨rows_block (enc := encV) (L := [⟨tY, 0⟩, ⟨tX, 0⟩]) (fun _ => rfl) h1 rfl (by show 2 ≤ maxLen; decide) (fun v hv => ?_) rfl, RowsAt.nil rfl rfl⟩
      simp only [List.mem_cons, List.not_mem_nil, or_false] at hv
      rcases hv with rfl | rfl
      · exact hs tY (by simp)
      · exact hs tX (by simp)
  · simp only [smV, List.mem_cons, List.not_mem_nil, or_false] at hp
    subst hp
    exact ⟨hs tL (by simp), hs tA (by simp), hs tB (by simp)⟩
  · simp only [smV, List.mem_cons, List.not_mem_nil, or_false] at hp
    rcases hp with rfl | rfl
    · exact hs tB (by simp)
    · exact hs tA (by simp)
theorem sample_any (w : World) : Calls Tryz.prog 28 #[] w fun e w' => e = .returned (.agg #[.int .i64 3, .slice (some ⟨w.heap.size + 1 + 1, 0, none⟩) 2 2, .slice (some ⟨w.heap.size + 1 + 1 + 1, 0, none⟩) 1 1, .slice (some ⟨w.heap.size + 1 + 1 + 1 + 1, 0, none⟩) 2 2]) ∧ ModelAt w'.heap.size w' (smV w.heap.size) ∧ Below w.heap.size w w' := by
  go_enter Tryz.func28, Tryz.ntmps28
  go_wp2
  have hx0 : (((((w.alloc (.cells #[.int .i64 3, .slice (some ⟨w.heap.size + 1 + 1, 0, none⟩) 2 2, .slice (some ⟨w.heap.size + 1 + 1 + 1, 0, none⟩) 1 1, .slice (some ⟨w.heap.size + 1 + 1 + 1 + 1, 0, none⟩) 2 2] 26)).alloc (.cells #[.string ⟨#[121]⟩, .int .i64 0, .string ⟨#[120]⟩, .int .i64 0] 40)).alloc (.cells #[.string ⟨#[98]⟩, .int .i64 2, .slice none 0 0, .slice none 0 0, .string ⟨#[97]⟩, .int .i64 1, .slice (some ⟨w.heap.size + 1, 0, none⟩) 2 2, .slice none 0 0] 34)).alloc (.cells #[.string ⟨#[108]⟩, .string ⟨#[97]⟩, .string ⟨#[98]⟩, .int .i64 5, .int .i64 4] 42)).alloc (.cells #[.string ⟨#[98]⟩, .int .i64 1, .int .i64 0, .string ⟨#[97]⟩, .int .i64 1, .int .i64 0] 57)).heap[w.heap.size]? = some (.cells #[.int .i64 3, .slice (some ⟨w.heap.size + 1 + 1, 0, none⟩) 2 2, .slice (some ⟨w.heap.size + 1 + 1 + 1, 0, none⟩) 1 1, .slice (some ⟨w.heap.size + 1 + 1 + 1 + 1, 0, none⟩) 2 2] 26 (0, 0)) := heap_alloc (heap_alloc (heap_alloc (heap_alloc (heap_new _ rfl) _) _) _) _
  have hx1 : (((((w.alloc (.cells #[.int .i64 3, .slice (some ⟨w.heap.size + 1 + 1, 0, none⟩) 2 2, .slice (some ⟨w.heap.size + 1 + 1 + 1, 0, none⟩) 1 1, .slice (some ⟨w.heap.size + 1 + 1 + 1 + 1, 0, none⟩) 2 2] 26)).alloc (.cells #[.string ⟨#[121]⟩, .int .i64 0, .string ⟨#[120]⟩, .int .i64 0] 40)).alloc (.cells #[.string ⟨#[98]⟩, .int .i64 2, .slice none 0 0, .slice none 0 0, .string ⟨#[97]⟩, .int .i64 1, .slice (some ⟨w.heap.size + 1, 0, none⟩) 2 2, .slice none 0 0] 34)).alloc (.cells #[.string ⟨#[108]⟩, .string ⟨#[97]⟩, .string ⟨#[98]⟩, .int .i64 5, .int .i64 4] 42)).alloc (.cells #[.string ⟨#[98]⟩, .int .i64 1, .int .i64 0, .string ⟨#[97]⟩, .int .i64 1, .int .i64 0] 57)).heap[w.heap.size + 1]? = some (.cells #[.string ⟨#[121]⟩, .int .i64 0, .string ⟨#[120]⟩, .int .i64 0] 40 (0, 0)) := heap_alloc (heap_alloc (heap_alloc (heap_new _ (by simp)) _) _) _
  have hx2 : (((((w.alloc (.cells #[.int .i64 3, .slice (some ⟨w.heap.size + 1 + 1, 0, none⟩) 2 2, .slice (some ⟨w.heap.size + 1 + 1 + 1, 0, none⟩) 1 1, .slice (some ⟨w.heap.size + 1 + 1 + 1 + 1, 0, none⟩) 2 2] 26)).alloc (.cells #[.string ⟨#[121]⟩, .int .i64 0, .string ⟨#[120]⟩, .int .i64 0] 40)).alloc (.cells #[.string ⟨#[98]⟩, .int .i64 2, .slice none 0 0, .slice none 0 0, .string ⟨#[97]⟩, .int .i64 1, .slice (some ⟨w.heap.size + 1, 0, none⟩) 2 2, .slice none 0 0] 34)).alloc (.cells #[.string ⟨#[108]⟩, .string ⟨#[97]⟩, .string ⟨#[98]⟩, .int .i64 5, .int .i64 4] 42)).alloc (.cells #[.string ⟨#[98]⟩, .int .i64 1, .int .i64 0, .string ⟨#[97]⟩, .int .i64 1, .int .i64 0] 57)).heap[w.heap.size + 1 + 1]? = some (.cells #[.string ⟨#[98]⟩, .int .i64 2, .slice none 0 0, .slice none 0 0, .string ⟨#[97]⟩, .int .i64 1, .slice (some ⟨w.heap.size + 1, 0, none⟩) 2 2, .slice none 0 0] 34 (0, 0)) := heap_alloc (heap_alloc (heap_new _ (by simp)) _) _
  have hx3 : (((((w.alloc (.cells #[.int .i64 3, .slice (some ⟨w.heap.size + 1 + 1, 0, none⟩) 2 2, .slice (some ⟨w.heap.size + 1 + 1 + 1, 0, none⟩) 1 1, .slice (some ⟨w.heap.size + 1 + 1 + 1 + 1, 0, none⟩) 2 2] 26)).alloc (.cells #[.string ⟨#[121]⟩, .int .i64 0, .string ⟨#[120]⟩, .int .i64 0] 40)).alloc (.cells #[.string ⟨#[98]⟩, .int .i64 2, .slice none 0 0, .slice none 0 0, .string ⟨#[97]⟩, .int .i64 1, .slice (some ⟨w.heap.size + 1, 0, none⟩) 2 2, .slice none 0 0] 34)).alloc (.cells #[.string ⟨#[108]⟩, .string ⟨#[97]⟩, .string ⟨#[98]⟩, .int .i64 5, .int .i64 4] 42)).alloc (.cells #[.string ⟨#[98]⟩, .int .i64 1, .int .i64 0, .string ⟨#[97]⟩, .int .i64 1, .int .i64 0] 57)).heap[w.heap.size + 1 + 1 + 1]? = some (.cells #[.string ⟨#[108]⟩, .string ⟨#[97]⟩, .string ⟨#[98]⟩, .int .i64 5, .int .i64 4] 42 (0, 0)) := heap_alloc (heap_new _ (by simp)) _
  have hx4 : (((((w.alloc (.cells #[.int .i64 3, .slice (some ⟨w.heap.size + 1 + 1, 0, none⟩) 2 2, .slice (some ⟨w.heap.size + 1 + 1 + 1, 0, none⟩) 1 1, .slice (some ⟨w.heap.size + 1 + 1 + 1 + 1, 0, none⟩) 2 2] 26)).alloc (.cells #[.string ⟨#[121]⟩, .int .i64 0, .string ⟨#[120]⟩, .int .i64 0] 40)).alloc (.cells #[.string ⟨#[98]⟩, .int .i64 2, .slice none 0 0, .slice none 0 0, .string ⟨#[97]⟩, .int .i64 1, .slice (some ⟨w.heap.size + 1, 0, none⟩) 2 2, .slice none 0 0] 34)).alloc (.cells #[.string ⟨#[108]⟩, .string ⟨#[97]⟩, .string ⟨#[98]⟩, .int .i64 5, .int .i64 4] 42)).alloc (.cells #[.string ⟨#[98]⟩, .int .i64 1, .int .i64 0, .string ⟨#[97]⟩, .int .i64 1, .int .i64 0] 57)).heap[w.heap.size + 1 + 1 + 1 + 1]? = some (.cells #[.string ⟨#[98]⟩, .int .i64 1, .int .i64 0, .string ⟨#[97]⟩, .int .i64 1, .int .i64 0] 57 (0, 0)) := heap_new _ (by simp)
  refine bodyPost_ret (mdl_ret rfl hx0 rfl) rfl ⟨rfl, smV_at hx1 hx2 hx3 hx4, ?_⟩
  exact ((((below_one w _).alloc (by simp) _).alloc (by simp; omega) _).alloc (by simp; omega) _).alloc (by simp; omega) _
end Go.Proofs.YtjcmeacgfflfmaaGreat.Hk

namespace Go.Proofs.YtjcmeacgfflfmaaGreat.Hk
open Go.RowKit Go.Shelf Go.Proofs.YtjcmeacgfflfmaaGreat.Md

/-- What the example, laid down, is in memory. -/
structure SmC (y : ModelV) (vb vc : Nat) (W : World) : Prop where
  own : ModelAt W.heap.size W y
  n0 : W.cell? ⟨y.pb, 0, none⟩ = some (.string tA)
  n2 : W.cell? ⟨y.pb, 2, none⟩ = some (.slice (some ⟨vb, 0, none⟩) 2 vc)
  v0 : W.cell? ⟨vb, 0, none⟩ = some (.string tX)
  e0 : W.cell? ⟨y.eb, 0, none⟩ = some (.string tA)
  lts : y.pb < W.heap.size ∧ vb < W.heap.size ∧ y.eb < W.heap.size
theorem SmC.on {y : ModelV} {vb vc : Nat} {W W' : World} (h : SmC y vb vc W) (hb : Below W.heap.size W W') : SmC y vb vc W' :=
  ⟨h.own.on hb, (hb.cell (p := ⟨y.pb, 0, none⟩) h.lts.1).trans h.n0, (hb.cell (p := ⟨y.pb, 2, none⟩) h.lts.1).trans h.n2, (hb.cell (p := ⟨vb, 0, none⟩) h.lts.2.1).trans h.v0, (hb.cell (p := ⟨y.eb, 0, none⟩) h.lts.2.2).trans h.e0, by have := hb.size; have := h.lts; omega⟩
theorem smC_at {base : Nat} {W : World} {y : ModelV} (h : OwnM base W y) (hm : y.m = smC) : y.ver = 3 ∧ y.procs.length = 2 ∧ y.links.length = 1 ∧ y.events.length = 2 ∧ y.pa = some ⟨y.pb, 0, none⟩ ∧ y.ea = some ⟨y.eb, 0, none⟩ ∧ ∃ vb vc, SmC y vb vc W := by
  have h1 : y.ver = 3 := congrArg ModelM.ver hm
  have h2 : y.procs.map (·.p) = smC.procs := congrArg ModelM.procs hm
  have h3 : y.links = smC.links := congrArg ModelM.links hm
  have h4 : y.events = smC.events := congrArg ModelM.events hm
  have l2 : y.procs.length = 2 := by have := congrArg List.length h2; simpa [smC] using this
  obtain ⟨q, hq⟩ : ∃ q, y.procs[0]? = some q := ⟨_, List.getElem?_eq_getElem (by omega)⟩
  have hqp : q.p = ⟨tA, 1, [⟨tX, 0⟩, ⟨tY, 0⟩], []⟩ := by
    have := congrArg (fun l => l[0]?) h2
    simp only [List.getElem?_map, hq] at this
    simpa [smC] using this
  have ha := h.at_
  have hv := (h.inner q (List.mem_of_getElem? hq))
  have hvr := hv.vars.rows
  have p1 := ha.procs.addr.resolve_left (by omega)
  have p2 := ha.events.addr.resolve_left (by rw [h4]; simp [smC])
  have p3 := hvr.addr.resolve_left (by rw [hqp]; simp)
  have e0 := ha.procs.cell 0 q hq 0 _ rfl
  have e2 := ha.procs.cell 0 q hq 2 _ rfl
  have e3 := ha.events.cell 0 ⟨tA, 1, 0⟩ (by rw [h4]; rfl) 0 _ rfl
  have e4 := hvr.cell 0 ⟨tX, 0⟩ (by rw [hqp]; rfl) 0 _ rfl
  rw [h.po] at p1 e0 e2
  rw [h.eo] at p2 e3
  have b1 := ha.procs.below.resolve_left (by omega)
  have b2 := ha.events.below.resolve_left (by rw [h4]; simp [smC])
  have b3 := hvr.below.resolve_left (by rw [hqp]; simp)
  refine ⟨h1, l2, by rw [h3]; rfl, by rw [h4]; rfl, p1, p2, q.vb, q.vc, ha, ?_, ?_, e4, e3, b1, b3, b2⟩
  · rw [hqp] at e0; exact e0
  · unfold ProcV.vv at e2
    rw [p3, hqp] at e2
    exact e2
/-- What alive holds at its end. -/
structure AlS (w : World) (N B1 B2 : Nat) (y : ModelV) (vb vc g nb : Nat) (W : World) : Prop where
  low : Below w.heap.size w W
  mbox : W.heap[B1]? = some (.cells #[.int .i64 3, .slice (some ⟨N + 1 + 1, 0, none⟩) 2 2, .slice (some ⟨N + 1 + 1 + 1, 0, none⟩) 1 1, .slice (some ⟨N + 1 + 1 + 1 + 1, 0, none⟩) 2 2] 26 (0, 0))
  cbox : W.heap[B2]? = some (.cells #[.int .i64 3, .slice (some ⟨y.pb, 0, none⟩) 2 y.pc, .slice y.la 1 y.lc, .slice (some ⟨y.eb, 0, none⟩) 2 y.ec] 26 (0, 0))
  mat : ModelAt W.heap.size W (smV N)
  yat : SmC y vb vc W
  gr : IsG W g nb (wtsM smM) (tabM smM 1)
theorem AlS.on {w : World} {N B1 B2 : Nat} {y : ModelV} {vb vc g nb : Nat} {W W' : World} (h : AlS w N B1 B2 y vb vc g nb W) (hb : Below W.heap.size W W') : AlS w N B1 B2 y vb vc g nb W' :=
  ⟨h.low.trans (hb.mono h.low.size), heap_on h.mbox hb, heap_on h.cbox hb, h.mat.on hb, h.yat.on hb, h.gr.below hb⟩
end Go.Proofs.YtjcmeacgfflfmaaGreat.Hk
