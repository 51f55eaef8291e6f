/- Contracts: a heap of api.Link, and a list in order. Contracts: a heap of api.Link: the least taken out; a list in order. Contracts: a heap of api.Link drained; a list in order. -/
import Derived.Test.YtjcmeacgfflfmaaGreatHj
import Derived.Test.YtjcmeacgfflfmaaGreatHk
import Derived.Test.YtjcmeacgfflfmaaGreatMow
import Derived.Test.YtjcmeacgfflfmaaGreatAw
import Derived.Deep.RegionHeld3
import Derived.StillTailTactics
import Derived.BigQuiet
import Derived.Deep.DeepCutAuto
import Derived.Deep.LoopGhost
import Derived.Lib.SliceRun
import Derived.Maps.AppendAt
set_option linter.unusedVariables false
set_option linter.unusedSectionVars false
set_option linter.unusedSimpArgs false
namespace Go.Proofs.YtjcmeacgfflfmaaGreat.HeL
open Go.RowKit Go.Shelf Go.Proofs.YtjcmeacgfflfmaaGreat.Md
open Go.Proofs.YtjcmeacgfflfmaaGreat.Hg (HMem HIs Kd encT)

def z : LinkM := ⟨⟨#[]⟩, ⟨#[]⟩, ⟨#[]⟩, 0, 0⟩
instance : Inhabited LinkM := ⟨z⟩
def ord : Hg.Ord LinkM := Hk.byName (fun x => x.name)
def kd (bx : Nat) : Kd LinkM where
  enc := encL
  sz := 5
  fv := .func (.func 74) #[] #[.pointer (some ⟨bx, 0, none⟩)]
  th := 207
  te := 209
  hsz := fun _ => rfl
  one := fun x u hu => by
    unfold encL at hu
    simp only [List.mem_cons, List.not_mem_nil, or_false] at hu
    rcases hu with rfl | rfl | rfl | rfl | rfl <;> rfl
  ne := by decide
def Nm (bx : Nat) (w : World) : Prop := w.heap[bx]? = some (.cells #[.func (.func 33) #[] #[]] 67 (0, 0))
theorem Nm.turned {bx : Nat} {w w' : World} {R : Nat → Prop} (h : Nm bx w) (ht : Turned R w w') (hn : ¬ R bx) : Nm bx w' := ht.old h hn
theorem Nm.below {bx : Nat} {w w' : World} (h : Nm bx w) (hb : Below w.heap.size w w') : Nm bx w' := heap_below h hb (heap_lt h)
theorem Nm.far {bx : Nat} {w w' : World} (h : Nm bx w) (e : w'.heap[bx]? = w.heap[bx]?) : Nm bx w' := e.trans h
theorem over_any (k : Nat) (w : World) (h0 : 0 < k) (h1 : k ≤ 1000000) :
    Calls Tryz.prog 119 #[.int .i64 k] w fun e w' => e = .returned (.int .i64 (Hg.over k : Nat)) ∧ w = w' := by
  have h : ((Hg.over k : Nat) : Int) = ((k : Int) - 1) / 2 := by unfold Hg.over; omega
  have H := Lib.hid h
  clear h
  go_enter Tryz.func119, Tryz.ntmps119
  go_wp2
  go_ret
  refine ⟨?_, rfl⟩
  rw [H.out]
  rfl
theorem name_any (x : LinkM) (w : World) : Calls Tryz.prog 33 #[.agg #[.string x.name, .string x.frm, .string x.to_, .int .i64 x.delay, .int .i64 x.weight]] w fun e w' => e = .returned (.string x.name) ∧ Below w.heap.size w w' := by
  have HB := Lib.hid (below_one w (.cells #[.string x.name, .string x.frm, .string x.to_, .int .i64 x.delay, .int .i64 x.weight] 42))
  go_enter Tryz.func33, Tryz.ntmps33
  go_wp2
  go_ret
  exact ⟨rfl, HB.out⟩
set_option maxHeartbeats 2000000 in
theorem less_any (bx : Nat) (x y : LinkM) (w : World) (hn : Nm bx w) : Calls Tryz.prog 74 #[.agg #[.string x.name, .string x.frm, .string x.to_, .int .i64 x.delay, .int .i64 x.weight], .agg #[.string y.name, .string y.frm, .string y.to_, .int .i64 y.delay, .int .i64 y.weight], .pointer (some ⟨bx, 0, none⟩)] w fun e w' => e = .returned (.bool (ord.lt x y)) ∧ Below w.heap.size w w' := by
  have HB := Lib.hid ((below_one w (.cells #[.string x.name, .string x.frm, .string x.to_, .int .i64 x.delay, .int .i64 x.weight] 42)).alloc (by simp) (.cells #[.string y.name, .string y.frm, .string y.to_, .int .i64 y.delay, .int .i64 y.weight] 42))
  have HO1 : Hid (((w.alloc (.cells #[.string x.name, .string x.frm, .string x.to_, .int .i64 x.delay, .int .i64 x.weight] 42)).alloc (.cells #[.string y.name, .string y.frm, .string y.to_, .int .i64 y.delay, .int .i64 y.weight] 42)).heap[w.heap.size]? = some (.cells #[.string x.name, .string x.frm, .string x.to_, .int .i64 x.delay, .int .i64 x.weight] 42 (0, 0))) := Lib.hid (heap_alloc (heap_new _ rfl) _)
  have HO2 : Hid (((w.alloc (.cells #[.string x.name, .string x.frm, .string x.to_, .int .i64 x.delay, .int .i64 x.weight] 42)).alloc (.cells #[.string y.name, .string y.frm, .string y.to_, .int .i64 y.delay, .int .i64 y.weight] 42)).heap[w.heap.size + 1]? = some (.cells #[.string y.name, .string y.frm, .string y.to_, .int .i64 y.delay, .int .i64 y.weight] 42 (0, 0))) := Lib.hid (heap_new _ (by simp))
  have HN : Hid (((w.alloc (.cells #[.string x.name, .string x.frm, .string x.to_, .int .i64 x.delay, .int .i64 x.weight] 42)).alloc (.cells #[.string y.name, .string y.frm, .string y.to_, .int .i64 y.delay, .int .i64 y.weight] 42)).heap[bx]? = some (.cells #[.func (.func 33) #[] #[]] 67 (0, 0))) := Lib.hid (heap_alloc (heap_alloc hn _) _)
  have HC : Hid (∀ W, Calls Tryz.prog 33 #[.agg #[.string x.name, .string x.frm, .string x.to_, .int .i64 x.delay, .int .i64 x.weight]] W fun e w' => e = .returned (.string x.name) ∧ Below W.heap.size W w') := Lib.hid (fun W => name_any x W)
  have HD : Hid (∀ W, Calls Tryz.prog 33 #[.agg #[.string y.name, .string y.frm, .string y.to_, .int .i64 y.delay, .int .i64 y.weight]] W fun e w' => e = .returned (.string y.name) ∧ Below W.heap.size W w') := Lib.hid (fun W => name_any y W)
  clear hn
  obtain ⟨bb, hbb⟩ : ∃ bb, ord.lt x y = bb := ⟨_, rfl⟩
  have hbb2 : Op.bytesLess x.name.toList y.name.toList = bb := hbb
  rw [hbb]
  clear hbb
  go_enter Tryz.func74, Tryz.ntmps74
  go_upto_region 1 with fail
  generalize (w.alloc (.cells #[.string x.name, .string x.frm, .string x.to_, .int .i64 x.delay, .int .i64 x.weight] 42)).alloc (.cells #[.string y.name, .string y.frm, .string y.to_, .int .i64 y.delay, .int .i64 y.weight] 42) = w1 at *

  have d0 : ∀ W, Below w1.heap.size w1 W → W.cell? ⟨w.heap.size, 0, none⟩ = some (.string x.name) := fun W hW => heap_cell (heap_below HO1.out hW (heap_lt HO1.out)) rfl
  have e0 : ∀ W, Below w1.heap.size w1 W → W.cell? ⟨w.heap.size + 1, 0, none⟩ = some (.string y.name) := fun W hW => heap_cell (heap_below HO2.out hW (heap_lt HO2.out)) rfl
  have d1 : ∀ W, Below w1.heap.size w1 W → W.cell? ⟨w.heap.size, 1, none⟩ = some (.string x.frm) := fun W hW => heap_cell (heap_below HO1.out hW (heap_lt HO1.out)) rfl
  have e1 : ∀ W, Below w1.heap.size w1 W → W.cell? ⟨w.heap.size + 1, 1, none⟩ = some (.string y.frm) := fun W hW => heap_cell (heap_below HO2.out hW (heap_lt HO2.out)) rfl
  have d2 : ∀ W, Below w1.heap.size w1 W → W.cell? ⟨w.heap.size, 2, none⟩ = some (.string x.to_) := fun W hW => heap_cell (heap_below HO1.out hW (heap_lt HO1.out)) rfl
  have e2 : ∀ W, Below w1.heap.size w1 W → W.cell? ⟨w.heap.size + 1, 2, none⟩ = some (.string y.to_) := fun W hW => heap_cell (heap_below HO2.out hW (heap_lt HO2.out)) rfl
  have d3 : ∀ W, Below w1.heap.size w1 W → W.cell? ⟨w.heap.size, 3, none⟩ = some (.int .i64 x.delay) := fun W hW => heap_cell (heap_below HO1.out hW (heap_lt HO1.out)) rfl
  have e3 : ∀ W, Below w1.heap.size w1 W → W.cell? ⟨w.heap.size + 1, 3, none⟩ = some (.int .i64 y.delay) := fun W hW => heap_cell (heap_below HO2.out hW (heap_lt HO2.out)) rfl
  have d4 : ∀ W, Below w1.heap.size w1 W → W.cell? ⟨w.heap.size, 4, none⟩ = some (.int .i64 x.weight) := fun W hW => heap_cell (heap_below HO1.out hW (heap_lt HO1.out)) rfl
  have e4 : ∀ W, Below w1.heap.size w1 W → W.cell? ⟨w.heap.size + 1, 4, none⟩ = some (.int .i64 y.weight) := fun W hW => heap_cell (heap_below HO2.out hW (heap_lt HO2.out)) rfl
  have f1 : ∀ W, Below w1.heap.size w1 W → W.cell? ⟨bx, 0, none⟩ = some (.func (.func 33) #[] #[]) := fun W hW => heap_cell (heap_below HN.out hW (heap_lt HN.out)) rfl
  go_region_held3 (fun W => Below w1.heap.size w1 W) (first | assumption | exact Below.refl _ _ | exact (Below.refl _ _).drew | exact Below.drew (by assumption)) (first
    | (go_at_call 33; with_reducible refine (HC.out _).mono ?_; rintro e w5 ⟨rfl, hb⟩; have hS5 : Below w1.heap.size w1 w5 := Below.trans (show Below w1.heap.size w1 _ by first | assumption | exact (Below.refl _ _).drew | exact Below.refl _ _) (hb.mono (show Below w1.heap.size w1 _ by first | assumption | exact (Below.refl _ _).drew | exact Below.refl _ _).size); clear hb)
    | (go_at_call 33; with_reducible refine (HD.out _).mono ?_; rintro e w6 ⟨rfl, hb⟩; have hS6 : Below w1.heap.size w1 w6 := Below.trans (show Below w1.heap.size w1 _ by first | assumption | exact (Below.refl _ _).drew | exact Below.refl _ _) (hb.mono (show Below w1.heap.size w1 _ by first | assumption | exact (Below.refl _ _).drew | exact Below.refl _ _).size); clear hb))
  all_goals
    go_wp2
    go_ret
    exact ⟨rfl, HB.out.trans (hS6.mono HB.out.size)⟩
set_option maxRecDepth 100000 in
set_option maxHeartbeats 2000000 in
theorem before_any (bx : Nat) (x y : LinkM) (w : World) (hb : Nat) (v : Value) (n : Int) (hn : Nm bx w) (hh : w.heap[hb]? = some (.cells #[.func (.func 74) #[] #[.pointer (some ⟨bx, 0, none⟩)], v, .int .i64 n] 207 (0, 0))) :
    Calls Tryz.prog 159 #[.pointer (some ⟨hb, 0, none⟩), .agg #[.string x.name, .string x.frm, .string x.to_, .int .i64 x.delay, .int .i64 x.weight], .agg #[.string y.name, .string y.frm, .string y.to_, .int .i64 y.delay, .int .i64 y.weight]] w fun e w' => e = .returned (.bool (ord.lt x y)) ∧ Below w.heap.size w w' := by
  have hneq : ∀ V : World, Sem.run Tryz.prog (binOp BinOp.neq 116 (Value.func (Fn.func 74) #[] #[Value.pointer (some ⟨bx, 0, none⟩)]) Value.nilFunc) V = Result.ok (.bool true) V := fun V => by rfl
  have HB := Lib.hid ((below_one w (.cells #[.string x.name, .string x.frm, .string x.to_, .int .i64 x.delay, .int .i64 x.weight] 42)).alloc (by simp) (.cells #[.string y.name, .string y.frm, .string y.to_, .int .i64 y.delay, .int .i64 y.weight] 42))
  have HO1 : Hid (((w.alloc (.cells #[.string x.name, .string x.frm, .string x.to_, .int .i64 x.delay, .int .i64 x.weight] 42)).alloc (.cells #[.string y.name, .string y.frm, .string y.to_, .int .i64 y.delay, .int .i64 y.weight] 42)).heap[w.heap.size]? = some (.cells #[.string x.name, .string x.frm, .string x.to_, .int .i64 x.delay, .int .i64 x.weight] 42 (0, 0))) := Lib.hid (heap_alloc (heap_new _ rfl) _)
  have HO2 : Hid (((w.alloc (.cells #[.string x.name, .string x.frm, .string x.to_, .int .i64 x.delay, .int .i64 x.weight] 42)).alloc (.cells #[.string y.name, .string y.frm, .string y.to_, .int .i64 y.delay, .int .i64 y.weight] 42)).heap[w.heap.size + 1]? = some (.cells #[.string y.name, .string y.frm, .string y.to_, .int .i64 y.delay, .int .i64 y.weight] 42 (0, 0))) := Lib.hid (heap_new _ (by simp))
  have HH : Hid (((w.alloc (.cells #[.string x.name, .string x.frm, .string x.to_, .int .i64 x.delay, .int .i64 x.weight] 42)).alloc (.cells #[.string y.name, .string y.frm, .string y.to_, .int .i64 y.delay, .int .i64 y.weight] 42)).heap[hb]? = some (.cells #[.func (.func 74) #[] #[.pointer (some ⟨bx, 0, none⟩)], v, .int .i64 n] 207 (0, 0))) := Lib.hid (heap_alloc (heap_alloc hh _) _)
  have HC : Hid (∀ W, Below ((w.alloc (.cells #[.string x.name, .string x.frm, .string x.to_, .int .i64 x.delay, .int .i64 x.weight] 42)).alloc (.cells #[.string y.name, .string y.frm, .string y.to_, .int .i64 y.delay, .int .i64 y.weight] 42)).heap.size ((w.alloc (.cells #[.string x.name, .string x.frm, .string x.to_, .int .i64 x.delay, .int .i64 x.weight] 42)).alloc (.cells #[.string y.name, .string y.frm, .string y.to_, .int .i64 y.delay, .int .i64 y.weight] 42)) W → Calls Tryz.prog 74 #[.agg #[.string x.name, .string x.frm, .string x.to_, .int .i64 x.delay, .int .i64 x.weight], .agg #[.string y.name, .string y.frm, .string y.to_, .int .i64 y.delay, .int .i64 y.weight], .pointer (some ⟨bx, 0, none⟩)] W fun e w' => e = .returned (.bool (ord.lt x y)) ∧ Below W.heap.size W w') := Lib.hid (fun W hW => less_any bx x y W ((hn.below HB.out).below hW))
  clear hn hh
  generalize ord.lt x y = bb at *
  go_enter Tryz.func159, Tryz.ntmps159
  go_upto_region 1 with fail
  generalize (w.alloc (.cells #[.string x.name, .string x.frm, .string x.to_, .int .i64 x.delay, .int .i64 x.weight] 42)).alloc (.cells #[.string y.name, .string y.frm, .string y.to_, .int .i64 y.delay, .int .i64 y.weight] 42) = w1 at *
  have d0 : ∀ W, Below w1.heap.size w1 W → W.cell? ⟨w.heap.size, 0, none⟩ = some (.string x.name) := fun W hW => heap_cell (heap_below HO1.out hW (heap_lt HO1.out)) rfl
  have e0 : ∀ W, Below w1.heap.size w1 W → W.cell? ⟨w.heap.size + 1, 0, none⟩ = some (.string y.name) := fun W hW => heap_cell (heap_below HO2.out hW (heap_lt HO2.out)) rfl
  have d1 : ∀ W, Below w1.heap.size w1 W → W.cell? ⟨w.heap.size, 1, none⟩ = some (.string x.frm) := fun W hW => heap_cell (heap_below HO1.out hW (heap_lt HO1.out)) rfl
  have e1 : ∀ W, Below w1.heap.size w1 W → W.cell? ⟨w.heap.size + 1, 1, none⟩ = some (.string y.frm) := fun W hW => heap_cell (heap_below HO2.out hW (heap_lt HO2.out)) rfl
  have d2 : ∀ W, Below w1.heap.size w1 W → W.cell? ⟨w.heap.size, 2, none⟩ = some (.string x.to_) := fun W hW => heap_cell (heap_below HO1.out hW (heap_lt HO1.out)) rfl
  have e2 : ∀ W, Below w1.heap.size w1 W → W.cell? ⟨w.heap.size + 1, 2, none⟩ = some (.string y.to_) := fun W hW => heap_cell (heap_below HO2.out hW (heap_lt HO2.out)) rfl
  have d3 : ∀ W, Below w1.heap.size w1 W → W.cell? ⟨w.heap.size, 3, none⟩ = some (.int .i64 x.delay) := fun W hW => heap_cell (heap_below HO1.out hW (heap_lt HO1.out)) rfl
  have e3 : ∀ W, Below w1.heap.size w1 W → W.cell? ⟨w.heap.size + 1, 3, none⟩ = some (.int .i64 y.delay) := fun W hW => heap_cell (heap_below HO2.out hW (heap_lt HO2.out)) rfl
  have d4 : ∀ W, Below w1.heap.size w1 W → W.cell? ⟨w.heap.size, 4, none⟩ = some (.int .i64 x.weight) := fun W hW => heap_cell (heap_below HO1.out hW (heap_lt HO1.out)) rfl
  have e4 : ∀ W, Below w1.heap.size w1 W → W.cell? ⟨w.heap.size + 1, 4, none⟩ = some (.int .i64 y.weight) := fun W hW => heap_cell (heap_below HO2.out hW (heap_lt HO2.out)) rfl
  have f1 : ∀ W, Below w1.heap.size w1 W → W.cell? ⟨hb, 0, none⟩ = some (.func (.func 74) #[] #[.pointer (some ⟨bx, 0, none⟩)]) := fun W hW => heap_cell (heap_below HH.out hW (heap_lt HH.out)) rfl
  go_region_held3 (fun W => Below w1.heap.size w1 W) (first | assumption | exact Below.refl _ _ | exact (Below.refl _ _).drew | exact Below.drew (by assumption)) (first
    | (go_at_call 74; with_reducible refine (HC.out _ (by assumption)).mono ?_; rintro e w5 ⟨rfl, hb⟩; have hS5 : Below w1.heap.size w1 w5 := Below.trans (show Below w1.heap.size w1 _ by first | assumption | exact (Below.refl _ _).drew | exact Below.refl _ _) (hb.mono (show Below w1.heap.size w1 _ by first | assumption | exact (Below.refl _ _).drew | exact Below.refl _ _).size); clear hb))
  all_goals
    go_wp2
    go_ret
    exact ⟨rfl, HB.out.trans (hS5.mono HB.out.size)⟩
set_option maxHeartbeats 2000000 in
theorem ahead_any (bx : Nat) (x y : LinkM) (m n : Int) (w : World) (hb : Nat) (v : Value) (p : Int) (hn : Nm bx w) (hh : w.heap[hb]? = some (.cells #[.func (.func 74) #[] #[.pointer (some ⟨bx, 0, none⟩)], v, .int .i64 p] 207 (0, 0))) :
    Calls Tryz.prog 139 #[.pointer (some ⟨hb, 0, none⟩), .agg #[.string x.name, .string x.frm, .string x.to_, .int .i64 x.delay, .int .i64 x.weight, .int .i64 m], .agg #[.string y.name, .string y.frm, .string y.to_, .int .i64 y.delay, .int .i64 y.weight, .int .i64 n]] w fun e w' => e = .returned (.bool (Hg.ahead ord (x, m) (y, n))) ∧ Below w.heap.size w w' := by
  have H := Lib.hid (fun (W : World) (hB : Below w.heap.size w W) => And.intro (before_any bx x y W hb v p (hn.below hB) (heap_below hh hB (heap_lt hh))) (before_any bx y x W hb v p (hn.below hB) (heap_below hh hB (heap_lt hh))))
  clear hh hn
  by_cases hmn : m < n
  · have hmb : decide ((m : Int) < n) = true := by simpa using hmn
    have HM := Lib.hid hmn
    clear hmn
    go_enter Tryz.func139, Tryz.ntmps139
    go_wp2_with fail
    refine (H.out _ (((Below.refl _ _).alloc (Nat.le_refl _) _).alloc (by simp) _)).2.mono ?_
    rintro e w1 ⟨rfl, hB⟩
    go_wp2
    go_ret
    refine ⟨?_, (((Below.refl _ _).alloc (Nat.le_refl _) _).alloc (by simp) _).trans (hB.mono (by simp; omega))⟩
    simp [Hg.ahead, HM.out]
  · have hmb : decide ((m : Int) < n) = false := by simpa using hmn
    have HM := Lib.hid hmn
    clear hmn
    go_enter Tryz.func139, Tryz.ntmps139
    go_wp2_with fail
    refine (H.out _ (((Below.refl _ _).alloc (Nat.le_refl _) _).alloc (by simp) _)).1.mono ?_
    rintro e w1 ⟨rfl, hB⟩
    go_wp2
    go_ret
    refine ⟨?_, (((Below.refl _ _).alloc (Nat.le_refl _) _).alloc (by simp) _).trans (hB.mono (by simp; omega))⟩
    simp [Hg.ahead]
    intro h
    have := HM.out
    omega
theorem new_any (bx : Nat) (w : World) :
    Calls Tryz.prog 115 #[.func (.func 74) #[] #[.pointer (some ⟨bx, 0, none⟩)]] w fun e w' => e = .returned (.pointer (some ⟨w.heap.size, 0, none⟩)) ∧ HIs (kd bx) ord w.heap.size w.heap.size w.heap.size w' [] 0 ∧ Below w.heap.size w w' := by
  go_enter Tryz.func115, Tryz.ntmps115
  go_wp2
  go_ret
  refine ⟨rfl, ⟨.slice none 0 0, [], ⟨heap_new _ rfl, World.ownsRow_nil _ _ _ _, fun g hg => by simp [Value.ownBlock] at hg, Nat.le_refl _, by simp, .inr rfl⟩, Hg.Holds.nil 0⟩, (Below.refl _ _).alloc (Nat.le_refl _) _⟩

set_option maxHeartbeats 2000000 in
theorem peek_any (bx : Nat) {lo hb lb : Nat} {w : World} {row : List LinkM} {puts : Int} (h : HIs (kd bx) ord lo hb lb w row puts) :
    Calls Tryz.prog 160 #[.pointer (some ⟨hb, 0, none⟩)] w fun e w' => e = .returned (.tuple #[.agg #[.string (Hg.topV z ord row).name, .string (Hg.topV z ord row).frm, .string (Hg.topV z ord row).to_, .int .i64 (Hg.topV z ord row).delay, .int .i64 (Hg.topV z ord row).weight], .bool (decide (row.length ≠ 0))]) ∧ Below w.heap.size w w' := by
  obtain ⟨v, L, hm, hh⟩ := h
  have hl := hh.length
  have hbox : w.heap[hb]? = some (.cells #[.func (.func 74) #[] #[.pointer (some ⟨bx, 0, none⟩)], v, .int .i64 puts] 207 (0, 0)) := hm.box
  have c1 : w.cell? ⟨hb, 1, none⟩ = some v := heap_cell hbox rfl
  have hlt := heap_lt hbox
  clear hbox
  by_cases h0 : L.length = 0
  · have h1 : row.length = 0 := by omega
    have HT := Lib.hid (Hg.topV_nil z ord h1)
    have HR := Lib.hid h1
    have hsh : ∃ ao cap, v = .slice ao 0 cap := by
      rcases hm.shape with ⟨rfl, rfl⟩ | ⟨cap, cur, rfl, _⟩
      · exact ⟨none, 0, rfl⟩
      · exact ⟨_, cap, by rw [h0]⟩
    obtain ⟨ao, cap, rfl⟩ := hsh
    clear hl h0 hh hm h1
    go_enter Tryz.func160, Tryz.ntmps160
    go_wp2
    rw [HT.out, HR.out]
    exact bodyPost_ret (v := .tuple #[.agg #[.string ⟨#[]⟩, .string ⟨#[]⟩, .string ⟨#[]⟩, .int .i64 0, .int .i64 0], .bool false]) (by simp [results, Tryz.f160, go_sem]) rfl ⟨rfl, ((Below.refl _ _).alloc (Nat.le_refl _) _).alloc (by simp) _⟩
  · rcases hm.shape with ⟨rfl, rfl⟩ | ⟨cap, cur, rfl, _, hg, _, _⟩
    · exact absurd rfl h0
    · have hlb := heap_lt hg
      have hp : 0 < L.length := by omega
      have h1 : row.length ≠ 0 := by omega
      have htop := hh.top (by intro e; subst e; exact h1 rfl)
      have HL := Lib.hid (And.intro h1 ((Hg.topV_of z ord h1).trans htop.symm))
      obtain ⟨x, hx⟩ : ∃ x, Hg.g L 0 = x := ⟨_, rfl⟩

      have k0 : w.cell? ⟨lb, 0, none⟩ = some (.string x.1.name) := by have := hm.cell (i := 0) hp (r := 0) (u := .string x.1.name) (by rw [hx]; rfl); rwa [Nat.zero_mul, Nat.zero_add] at this
      have k1 : w.cell? ⟨lb, 1, none⟩ = some (.string x.1.frm) := by have := hm.cell (i := 0) hp (r := 1) (u := .string x.1.frm) (by rw [hx]; rfl); rwa [Nat.zero_mul, Nat.zero_add] at this
      have k2 : w.cell? ⟨lb, 2, none⟩ = some (.string x.1.to_) := by have := hm.cell (i := 0) hp (r := 2) (u := .string x.1.to_) (by rw [hx]; rfl); rwa [Nat.zero_mul, Nat.zero_add] at this
      have k3 : w.cell? ⟨lb, 3, none⟩ = some (.int .i64 x.1.delay) := by have := hm.cell (i := 0) hp (r := 3) (u := .int .i64 x.1.delay) (by rw [hx]; rfl); rwa [Nat.zero_mul, Nat.zero_add] at this
      have k4 : w.cell? ⟨lb, 4, none⟩ = some (.int .i64 x.1.weight) := by have := hm.cell (i := 0) hp (r := 4) (u := .int .i64 x.1.weight) (by rw [hx]; rfl); rwa [Nat.zero_mul, Nat.zero_add] at this
      have k5 : w.cell? ⟨lb, 5, none⟩ = some (.int .i64 x.2) := by have := hm.cell (i := 0) hp (r := 5) (u := .int .i64 x.2) (by rw [hx]; rfl); rwa [Nat.zero_mul, Nat.zero_add] at this
      rw [hx] at HL
      clear hl htop hh hm hg h1 hx
      go_enter Tryz.func160, Tryz.ntmps160
      go_wp2
      rw [HL.out.2]
      exact bodyPost_ret (v := .tuple #[.agg #[.string x.1.name, .string x.1.frm, .string x.1.to_, .int .i64 x.1.delay, .int .i64 x.1.weight], .bool true]) (by simp [results, Tryz.f160, go_sem]) rfl ⟨by rw [decide_eq_true HL.out.1], (Below.refl _ _).alloc (Nat.le_refl _) _⟩

set_option maxHeartbeats 4000000 in
theorem room_any (bx : Nat) {lo hb lb : Nat} {w : World} {v : Value} {L : List (LinkM × Int)} {puts : Int} (hn0 : Nm bx w) (hm : HMem (kd bx) lo hb lb w v L puts) (e : LinkM × Int) (n : Nat) (hn : n ≤ L.length) (hs : L.length ≤ 1000000) :
    Calls Tryz.prog 161 #[.pointer (some ⟨hb, 0, none⟩), .agg #[.string e.1.name, .string e.1.frm, .string e.1.to_, .int .i64 e.1.delay, .int .i64 e.1.weight, .int .i64 e.2], .int .i64 n] w (Hg.RoomPost ord L n e w) := by
  have hlt := heap_lt hm.box
  have HA := Lib.hid (fun (x y : LinkM) (m p : Int) (W : World) (hB : Below w.heap.size w W) => ahead_any bx x y m p W hb v puts (hn0.below hB) (heap_below hm.box hB hlt))
  have HM := Lib.hid hm
  have hsh : ∃ ao cap, v = .slice ao L.length cap ∧ (L.length = 0 ∨ ao = some ⟨lb, 0, none⟩) ∧ L.length ≤ cap := by
    rcases hm.shape with ⟨rfl, rfl⟩ | ⟨cap, cur, rfl, _, _, hc, _⟩
    · exact ⟨none, 0, rfl, .inl rfl, Nat.le_refl _⟩
    · exact ⟨_, cap, rfl, .inr rfl, hc⟩
  obtain ⟨ao, cap, rfl, hao, hcap⟩ := hsh
  have dH : ∀ W, Hid (Hg.RoomW (kd bx) w e W) → W.cell? ⟨hb, 1, none⟩ = some (.slice ao L.length cap) := fun W hW => heap_cell (HM.out.below hW.out.below).box rfl
  have q0 : ∀ W, Hid (Hg.RoomW (kd bx) w e W) → W.cell? ⟨w.heap.size, 0, none⟩ = some (.string e.1.name) := fun W hW => heap_cell hW.out.box rfl
  have q1 : ∀ W, Hid (Hg.RoomW (kd bx) w e W) → W.cell? ⟨w.heap.size, 1, none⟩ = some (.string e.1.frm) := fun W hW => heap_cell hW.out.box rfl
  have q2 : ∀ W, Hid (Hg.RoomW (kd bx) w e W) → W.cell? ⟨w.heap.size, 2, none⟩ = some (.string e.1.to_) := fun W hW => heap_cell hW.out.box rfl
  have q3 : ∀ W, Hid (Hg.RoomW (kd bx) w e W) → W.cell? ⟨w.heap.size, 3, none⟩ = some (.int .i64 e.1.delay) := fun W hW => heap_cell hW.out.box rfl
  have q4 : ∀ W, Hid (Hg.RoomW (kd bx) w e W) → W.cell? ⟨w.heap.size, 4, none⟩ = some (.int .i64 e.1.weight) := fun W hW => heap_cell hW.out.box rfl
  have q5 : ∀ W, Hid (Hg.RoomW (kd bx) w e W) → W.cell? ⟨w.heap.size, 5, none⟩ = some (.int .i64 e.2) := fun W hW => heap_cell hW.out.box rfl
  clear hm hn0
  go_enter Tryz.func161, Tryz.ntmps161
  go_wp2
  go_loopw [7] (fun i wr => ∃ k : Nat, i = .int .i64 k ∧ k ≤ 1000000 ∧ Hid (Hg.RoomL ord L n e k) ∧ Hid (Hg.RoomW (kd bx) w e wr)) (fun i _ => 1000001 - (intOf i).toNat)
  case atStart => exact ⟨0, rfl, by omega, Lib.hid ⟨.inr rfl, .top, .inl rfl⟩, Lib.hid ⟨(Below.refl _ _).alloc (Nat.le_refl _) _, heap_new _ rfl⟩⟩
  case round =>
    obtain ⟨k, rfl, hk, hL, hW⟩ := hrel
    by_cases hc : n ≤ 2 * k + 1
    · have HB := Lib.hid (And.intro (Hg.room_stop hn hL.out hc) hW.out.below)
      clear hao
      go_wp2
      go_ret
      exact ⟨k, rfl, HB.out.1, HB.out.2⟩
    · have hkn : k < n := by rcases hL.out.1 with h | h <;> omega
      have haos : ao = some ⟨lb, 0, none⟩ := hao.resolve_left (by omega)
      subst haos
      clear hao
      by_cases hc2 : n ≤ 2 * k + 1 + 1
      · have hd : decide ((2 * (k : Int) + 1 + 1) < (n : Int)) = false := by simp; omega
        have HK1 := Lib.hid (Hg.kid_one (kf := ord) (L := L) (by omega : 2 * k + 1 < n) hc2)
        go_wp2
        go_quiet (fail)
        go_wp2
        have HW := Lib.hid (hW.out.drewN nq)
        generalize wr.drewN nq = V at *
        clear hW hd
        have ht0 : (2 * (k : Int) + 1 : Int).toNat = 2 * k + 1 := by omega
        have hi0 : (0 : Int) ≤ 2 * (k : Int) + 1 := by omega
        have hi1 : (2 * (k : Int) + 1 : Int) < (L.length : Int) := by omega
        have a0 : ∀ W, Hid (Hg.RoomW (kd bx) w e W) → W.cell? ⟨lb, (2 * k + 1) * 6, none⟩ = some (.string (Hg.g L (2 * k + 1)).1.name) := fun W hW => (HM.out.below hW.out.below).cell (i := 2 * k + 1) (by omega) (r := 0) rfl
        have a1 : ∀ W, Hid (Hg.RoomW (kd bx) w e W) → W.cell? ⟨lb, (2 * k + 1) * 6 + 1, none⟩ = some (.string (Hg.g L (2 * k + 1)).1.frm) := fun W hW => (HM.out.below hW.out.below).cell (i := 2 * k + 1) (by omega) (r := 1) rfl
        have a2 : ∀ W, Hid (Hg.RoomW (kd bx) w e W) → W.cell? ⟨lb, (2 * k + 1) * 6 + 2, none⟩ = some (.string (Hg.g L (2 * k + 1)).1.to_) := fun W hW => (HM.out.below hW.out.below).cell (i := 2 * k + 1) (by omega) (r := 2) rfl
        have a3 : ∀ W, Hid (Hg.RoomW (kd bx) w e W) → W.cell? ⟨lb, (2 * k + 1) * 6 + 3, none⟩ = some (.int .i64 (Hg.g L (2 * k + 1)).1.delay) := fun W hW => (HM.out.below hW.out.below).cell (i := 2 * k + 1) (by omega) (r := 3) rfl
        have a4 : ∀ W, Hid (Hg.RoomW (kd bx) w e W) → W.cell? ⟨lb, (2 * k + 1) * 6 + 4, none⟩ = some (.int .i64 (Hg.g L (2 * k + 1)).1.weight) := fun W hW => (HM.out.below hW.out.below).cell (i := 2 * k + 1) (by omega) (r := 4) rfl
        have a5 : ∀ W, Hid (Hg.RoomW (kd bx) w e W) → W.cell? ⟨lb, (2 * k + 1) * 6 + 5, none⟩ = some (.int .i64 (Hg.g L (2 * k + 1)).2) := fun W hW => (HM.out.below hW.out.below).cell (i := 2 * k + 1) (by omega) (r := 5) rfl
        go_region_held3 (fun w' => Hid (Hg.RoomW (kd bx) w e w')) (first | assumption | exact Lib.hid HW.out.drew | exact Lib.hid (HW.out.drew.next hB1.out)) (first | (go_at_call 139; refine (HA.out _ _ _ _ _ HW.out.drew.below).mono ?_; rintro e5 w5 ⟨rfl, hB⟩; have hB1 := Lib.hid hB; clear hB))
        have HW5 := Lib.hid (HW.out.drew.next hB1.out)
        clear HW a0 a1 a2 a3 a4 a5 ht0
        generalize hb7 : Hg.ahead ord ((Hg.g L (2 * k + 1)).1, (Hg.g L (2 * k + 1)).2) (e.1, e.2) = b7
        have HB2 := Lib.hid hb7
        clear hb7
        cases b7
        case true =>
          go_wp2
          go_roundw
          case rel => exact ⟨2 * k + 1, by go_num, by omega, Lib.hid (Hg.room_next hn hL.out HK1.out HB2.out), HW5⟩
          case measure => simp [intOf]; omega
        case false =>
          go_wp2
          go_ret
          exact ⟨k, rfl, Hg.room_end hn hL.out HK1.out HB2.out, HW5.out.below⟩
      · have hd : decide ((2 * (k : Int) + 1 + 1) < (n : Int)) = true := by simp; omega
        have ht1 : (2 * (k : Int) + 1).toNat = 2 * k + 1 := by omega
        have ht2 : (2 * (k : Int) + 1 + 1).toNat = 2 * k + 1 + 1 := by omega
        have hj0 : (0 : Int) ≤ 2 * (k : Int) + 1 := by omega
        have hj1 : (2 * (k : Int) + 1) < (L.length : Int) := by omega
        have hj2 : (0 : Int) ≤ 2 * (k : Int) + 1 + 1 := by omega
        have hj3 : (2 * (k : Int) + 1 + 1) < (L.length : Int) := by omega
        have a0 : ∀ W, Hid (Hg.RoomW (kd bx) w e W) → W.cell? ⟨lb, (2 * k + 1) * 6, none⟩ = some (.string (Hg.g L (2 * k + 1)).1.name) := fun W hW => (HM.out.below hW.out.below).cell (i := 2 * k + 1) (by omega) (r := 0) rfl
        have a1 : ∀ W, Hid (Hg.RoomW (kd bx) w e W) → W.cell? ⟨lb, (2 * k + 1) * 6 + 1, none⟩ = some (.string (Hg.g L (2 * k + 1)).1.frm) := fun W hW => (HM.out.below hW.out.below).cell (i := 2 * k + 1) (by omega) (r := 1) rfl
        have a2 : ∀ W, Hid (Hg.RoomW (kd bx) w e W) → W.cell? ⟨lb, (2 * k + 1) * 6 + 2, none⟩ = some (.string (Hg.g L (2 * k + 1)).1.to_) := fun W hW => (HM.out.below hW.out.below).cell (i := 2 * k + 1) (by omega) (r := 2) rfl
        have a3 : ∀ W, Hid (Hg.RoomW (kd bx) w e W) → W.cell? ⟨lb, (2 * k + 1) * 6 + 3, none⟩ = some (.int .i64 (Hg.g L (2 * k + 1)).1.delay) := fun W hW => (HM.out.below hW.out.below).cell (i := 2 * k + 1) (by omega) (r := 3) rfl
        have a4 : ∀ W, Hid (Hg.RoomW (kd bx) w e W) → W.cell? ⟨lb, (2 * k + 1) * 6 + 4, none⟩ = some (.int .i64 (Hg.g L (2 * k + 1)).1.weight) := fun W hW => (HM.out.below hW.out.below).cell (i := 2 * k + 1) (by omega) (r := 4) rfl
        have a5 : ∀ W, Hid (Hg.RoomW (kd bx) w e W) → W.cell? ⟨lb, (2 * k + 1) * 6 + 5, none⟩ = some (.int .i64 (Hg.g L (2 * k + 1)).2) := fun W hW => (HM.out.below hW.out.below).cell (i := 2 * k + 1) (by omega) (r := 5) rfl
        have b0 : ∀ W, Hid (Hg.RoomW (kd bx) w e W) → W.cell? ⟨lb, (2 * k + 1 + 1) * 6, none⟩ = some (.string (Hg.g L (2 * k + 1 + 1)).1.name) := fun W hW => (HM.out.below hW.out.below).cell (i := 2 * k + 1 + 1) (by omega) (r := 0) rfl
        have b1 : ∀ W, Hid (Hg.RoomW (kd bx) w e W) → W.cell? ⟨lb, (2 * k + 1 + 1) * 6 + 1, none⟩ = some (.string (Hg.g L (2 * k + 1 + 1)).1.frm) := fun W hW => (HM.out.below hW.out.below).cell (i := 2 * k + 1 + 1) (by omega) (r := 1) rfl
        have b2 : ∀ W, Hid (Hg.RoomW (kd bx) w e W) → W.cell? ⟨lb, (2 * k + 1 + 1) * 6 + 2, none⟩ = some (.string (Hg.g L (2 * k + 1 + 1)).1.to_) := fun W hW => (HM.out.below hW.out.below).cell (i := 2 * k + 1 + 1) (by omega) (r := 2) rfl
        have b3 : ∀ W, Hid (Hg.RoomW (kd bx) w e W) → W.cell? ⟨lb, (2 * k + 1 + 1) * 6 + 3, none⟩ = some (.int .i64 (Hg.g L (2 * k + 1 + 1)).1.delay) := fun W hW => (HM.out.below hW.out.below).cell (i := 2 * k + 1 + 1) (by omega) (r := 3) rfl
        have b4 : ∀ W, Hid (Hg.RoomW (kd bx) w e W) → W.cell? ⟨lb, (2 * k + 1 + 1) * 6 + 4, none⟩ = some (.int .i64 (Hg.g L (2 * k + 1 + 1)).1.weight) := fun W hW => (HM.out.below hW.out.below).cell (i := 2 * k + 1 + 1) (by omega) (r := 4) rfl
        have b5 : ∀ W, Hid (Hg.RoomW (kd bx) w e W) → W.cell? ⟨lb, (2 * k + 1 + 1) * 6 + 5, none⟩ = some (.int .i64 (Hg.g L (2 * k + 1 + 1)).2) := fun W hW => (HM.out.below hW.out.below).cell (i := 2 * k + 1 + 1) (by omega) (r := 5) rfl
        go_wp2
        have hw5 : IntKind.i64.wrap (2 * (k : Int) + 1 + 1) = 2 * (k : Int) + 1 + 1 := IntWalk.i64_in _ (by omega)
        go_region_held3 (fun w' => Hid (Hg.RoomW (kd bx) w e w')) (first | assumption | exact Lib.hid hW.out.drew | exact Lib.hid (hW.out.drew.next hB1.out)) (first | (go_at_call 139; refine (HA.out _ _ _ _ _ hW.out.drew.below).mono ?_; rintro e5 w5 ⟨rfl, hB⟩; have hB1 := Lib.hid hB; clear hB))
        have HW := Lib.hid (hW.out.drew.next hB1.out)
        clear hW hB1 ht1 ht2 hw5
        generalize hb1 : Hg.ahead ord ((Hg.g L (2 * k + 1 + 1)).1, (Hg.g L (2 * k + 1 + 1)).2) ((Hg.g L (2 * k + 1)).1, (Hg.g L (2 * k + 1)).2) = b5
        cases b5
        case true =>
          have HK1 := Lib.hid (Hg.kid_b (kf := ord) (L := L) (by omega : 2 * k + 1 + 1 < n) hb1)
          clear hb1 a0 a1 a2 a3 a4 a5
          go_wp2
          have ht0 : (2 * (k : Int) + 1 + 1 : Int).toNat = 2 * k + 1 + 1 := by omega
          have hi0 : (0 : Int) ≤ 2 * (k : Int) + 1 + 1 := by omega
          have hi1 : (2 * (k : Int) + 1 + 1 : Int) < (L.length : Int) := by omega
          go_region_held3 (fun w' => Hid (Hg.RoomW (kd bx) w e w')) (first | assumption | exact Lib.hid HW.out.drew | exact Lib.hid (HW.out.drew.next hB1.out)) (first | (go_at_call 139; refine (HA.out _ _ _ _ _ HW.out.drew.below).mono ?_; rintro e5 w5 ⟨rfl, hB⟩; have hB1 := Lib.hid hB; clear hB))
          have HW5 := Lib.hid (HW.out.drew.next hB1.out)
          clear HW b0 b1 b2 b3 b4 b5 ht0
          generalize hb7 : Hg.ahead ord ((Hg.g L (2 * k + 1 + 1)).1, (Hg.g L (2 * k + 1 + 1)).2) (e.1, e.2) = b7
          have HB2 := Lib.hid hb7
          clear hb7
          cases b7
          case true =>
            go_wp2
            go_roundw
            case rel => exact ⟨2 * k + 1 + 1, by go_num, by omega, Lib.hid (Hg.room_next hn hL.out HK1.out HB2.out), HW5⟩
            case measure => simp [intOf]; omega
          case false =>
            go_wp2
            go_ret
            exact ⟨k, rfl, Hg.room_end hn hL.out HK1.out HB2.out, HW5.out.below⟩
        case false =>
          have HK1 := Lib.hid (Hg.kid_a (kf := ord) (L := L) (by omega : 2 * k + 1 + 1 < n) hb1)
          clear hb1 b0 b1 b2 b3 b4 b5
          go_wp2
          have ht0 : (2 * (k : Int) + 1 : Int).toNat = 2 * k + 1 := by omega
          have hi0 : (0 : Int) ≤ 2 * (k : Int) + 1 := by omega
          have hi1 : (2 * (k : Int) + 1 : Int) < (L.length : Int) := by omega
          go_region_held3 (fun w' => Hid (Hg.RoomW (kd bx) w e w')) (first | assumption | exact Lib.hid HW.out.drew | exact Lib.hid (HW.out.drew.next hB1.out)) (first | (go_at_call 139; refine (HA.out _ _ _ _ _ HW.out.drew.below).mono ?_; rintro e5 w5 ⟨rfl, hB⟩; have hB1 := Lib.hid hB; clear hB))
          have HW5 := Lib.hid (HW.out.drew.next hB1.out)
          clear HW a0 a1 a2 a3 a4 a5 ht0
          generalize hb7 : Hg.ahead ord ((Hg.g L (2 * k + 1)).1, (Hg.g L (2 * k + 1)).2) (e.1, e.2) = b7
          have HB2 := Lib.hid hb7
          clear hb7
          cases b7
          case true =>
            go_wp2
            go_roundw
            case rel => exact ⟨2 * k + 1, by go_num, by omega, Lib.hid (Hg.room_next hn hL.out HK1.out HB2.out), HW5⟩
            case measure => simp [intOf]; omega
          case false =>
            go_wp2
            go_ret
            exact ⟨k, rfl, Hg.room_end hn hL.out HK1.out HB2.out, HW5.out.below⟩

theorem Tryz.infoEntL : (Tryz.prog.info? 209).map (fun i => (i.zero, i.size, i.bytes)) = some (some (.agg #[.string ⟨#[]⟩, .string ⟨#[]⟩, .string ⟨#[]⟩, .int .i64 0, .int .i64 0, .int .i64 0]), 6, 72) := by kernel_rfl
set_option maxRecDepth 100000 in
set_option maxHeartbeats 8000000 in
theorem push_any (bx : Nat) {lo hb lb : Nat} {w : World} {row : List LinkM} {puts : Int} (hn0 : Nm bx w) (h : HIs (kd bx) ord lo hb lb w row puts) (x : LinkM) (hs : row.length ≤ 100000) (hp0 : 0 ≤ puts) (hp1 : puts ≤ 1000000) (hlo : lo ≤ w.heap.size) :
    Calls Tryz.prog 116 #[.pointer (some ⟨hb, 0, none⟩), .agg #[.string x.name, .string x.frm, .string x.to_, .int .i64 x.delay, .int .i64 x.weight]] w fun e w' => e = .returned (.tuple #[]) ∧ ∃ lb', HIs (kd bx) ord lo hb lb' w' (row ++ [x]) (puts + 1) ∧ (lb' = lb ∨ w.heap.size ≤ lb') ∧ Turned (fun k => k = hb ∨ k = lb) w w' := by
  obtain ⟨v, L, hm, hh⟩ := h
  have hl := hh.length
  have hlt := heap_lt hm.box
  have HA := Lib.hid (fun (x y : LinkM) (m p : Int) (W : World) (hB : Below w.heap.size w W) => ahead_any bx x y m p W hb v puts (hn0.below hB) (heap_below hm.box hB hlt))
  have HC := Lib.hid (fun (W : World) (hB : Below w.heap.size w W) => (hm.below hB))
  have HH := Lib.hid (And.intro hh hl)
  have HLB := Lib.hid hm.lt
  have hsh : ∃ ao cap, v = .slice ao L.length cap ∧ (L.length = 0 ∨ ao = some ⟨lb, 0, none⟩) ∧ L.length ≤ cap := by
    rcases hm.shape with ⟨rfl, rfl⟩ | ⟨cap, cur, rfl, _, _, hc, _⟩
    · exact ⟨none, 0, rfl, .inl rfl, Nat.le_refl _⟩
    · exact ⟨_, cap, rfl, .inr rfl, hc⟩
  obtain ⟨ao, cap, rfl, hao, hcap⟩ := hsh
  have hLs : L.length ≤ 100000 := by omega
  have hbox : w.heap[hb]? = some (.cells #[.func (.func 74) #[] #[.pointer (some ⟨bx, 0, none⟩)], .slice ao L.length cap, .int .i64 puts] 207 (0, 0)) := hm.box
  have c0 : w.cell? ⟨hb, 0, none⟩ = some (.func (.func 74) #[] #[.pointer (some ⟨bx, 0, none⟩)]) := heap_cell hbox rfl
  have c1 : w.cell? ⟨hb, 1, none⟩ = some (.slice ao L.length cap) := heap_cell hbox rfl
  have c2 : w.cell? ⟨hb, 2, none⟩ = some (.int .i64 puts) := heap_cell hbox rfl
  clear hm hh hl hn0 hbox
  go_enter Tryz.func116, Tryz.ntmps116
  go_wp2
  go_region
  go_wp2
  have HP0 : Hid (Hg.PW (kd bx) w (w.heap.size + 1) (x, puts) ((w.alloc (.cells #[.string x.name, .string x.frm, .string x.to_, .int .i64 x.delay, .int .i64 x.weight] 42)).alloc (Obj.cells #[.string x.name, .string x.frm, .string x.to_, .int .i64 x.delay, .int .i64 x.weight, .int .i64 puts] 209)).drew) :=
    Lib.hid ⟨(((Below.refl _ _).alloc (Nat.le_refl _) _).alloc (by simp) _).drew, heap_new _ (by simp), by omega⟩
  have dH : ∀ W, Hid (Hg.PW (kd bx) w (w.heap.size + 1) (x, puts) W) → W.cell? ⟨hb, 1, none⟩ = some (.slice ao L.length cap) := fun W hW => heap_cell (HC.out _ hW.out.below).box rfl
  have q0 : ∀ W, Hid (Hg.PW (kd bx) w (w.heap.size + 1) (x, puts) W) → W.cell? ⟨w.heap.size + 1, 0, none⟩ = some (.string x.name) := fun W hW => heap_cell hW.out.box rfl
  have q1 : ∀ W, Hid (Hg.PW (kd bx) w (w.heap.size + 1) (x, puts) W) → W.cell? ⟨w.heap.size + 1, 1, none⟩ = some (.string x.frm) := fun W hW => heap_cell hW.out.box rfl
  have q2 : ∀ W, Hid (Hg.PW (kd bx) w (w.heap.size + 1) (x, puts) W) → W.cell? ⟨w.heap.size + 1, 2, none⟩ = some (.string x.to_) := fun W hW => heap_cell hW.out.box rfl
  have q3 : ∀ W, Hid (Hg.PW (kd bx) w (w.heap.size + 1) (x, puts) W) → W.cell? ⟨w.heap.size + 1, 3, none⟩ = some (.int .i64 x.delay) := fun W hW => heap_cell hW.out.box rfl
  have q4 : ∀ W, Hid (Hg.PW (kd bx) w (w.heap.size + 1) (x, puts) W) → W.cell? ⟨w.heap.size + 1, 4, none⟩ = some (.int .i64 x.weight) := fun W hW => heap_cell hW.out.box rfl
  have q5 : ∀ W, Hid (Hg.PW (kd bx) w (w.heap.size + 1) (x, puts) W) → W.cell? ⟨w.heap.size + 1, 5, none⟩ = some (.int .i64 puts) := fun W hW => heap_cell hW.out.box rfl
  go_loopg [5] L.length (fun k i wr => i = .int .i64 k ∧ k ≤ L.length ∧ Hid (Hg.Up ord L (x, puts) L.length k) ∧ Hid (Hg.PW (kd bx) w (w.heap.size + 1) (x, puts) wr))
  case atStart => exact ⟨rfl, Nat.le_refl _, Lib.hid (.refl _), HP0⟩
  case round =>
    obtain ⟨rfl, hk, hU, hW⟩ := hrel
    go_upto_region 3 with fail
    go_cut [5, 32] from 18 to 34 (fun s5 s32 wx => ∃ b : Bool, s5 = .int .i64 gk ∧ s32 = .bool b ∧ Hid (b = true → 0 < gk ∧ Hg.ahead ord (x, puts) (Hg.g L (Hg.over gk)) = true) ∧ Hid (b = false → gk = 0 ∨ Hg.ahead ord (x, puts) (Hg.g L (Hg.over gk)) = false) ∧ Hid (Hg.PW (kd bx) w (w.heap.size + 1) (x, puts) wx))
    case first =>
      by_cases hk0 : gk = 0
      · have hd : decide ((0 : Int) < (gk : Int)) = false := by simp; omega
        go_quiet (fail)
        go_wp2_with fail
        go_meet
        exact ⟨false, rfl, rfl, Lib.hid (fun h => by cases h), Lib.hid (fun _ => .inl hk0), Lib.hid (hW.out.next (Hg.below_drewN _ _))⟩
      · have hd : decide ((0 : Int) < (gk : Int)) = true := by simp; omega
        have hdn : decide (0 < gk) = true := by simp; omega
        have ho := Hg.over_lt (k := gk) (by omega)
        have haos : ao = some ⟨lb, 0, none⟩ := hao.resolve_left (by omega)
        subst haos
        have hi0 : (0 : Int) ≤ (Hg.over gk : Nat) := by omega
        have hi1 : ((Hg.over gk : Nat) : Int) < (L.length : Int) := by omega
        have a0 : ∀ W, Hid (Hg.PW (kd bx) w (w.heap.size + 1) (x, puts) W) → W.cell? ⟨lb, Hg.over gk * 6, none⟩ = some (.string (Hg.g L (Hg.over gk)).1.name) := fun W hW => (HC.out _ hW.out.below).cell (i := Hg.over gk) (by omega) (r := 0) rfl
        have a1 : ∀ W, Hid (Hg.PW (kd bx) w (w.heap.size + 1) (x, puts) W) → W.cell? ⟨lb, Hg.over gk * 6 + 1, none⟩ = some (.string (Hg.g L (Hg.over gk)).1.frm) := fun W hW => (HC.out _ hW.out.below).cell (i := Hg.over gk) (by omega) (r := 1) rfl
        have a2 : ∀ W, Hid (Hg.PW (kd bx) w (w.heap.size + 1) (x, puts) W) → W.cell? ⟨lb, Hg.over gk * 6 + 2, none⟩ = some (.string (Hg.g L (Hg.over gk)).1.to_) := fun W hW => (HC.out _ hW.out.below).cell (i := Hg.over gk) (by omega) (r := 2) rfl
        have a3 : ∀ W, Hid (Hg.PW (kd bx) w (w.heap.size + 1) (x, puts) W) → W.cell? ⟨lb, Hg.over gk * 6 + 3, none⟩ = some (.int .i64 (Hg.g L (Hg.over gk)).1.delay) := fun W hW => (HC.out _ hW.out.below).cell (i := Hg.over gk) (by omega) (r := 3) rfl
        have a4 : ∀ W, Hid (Hg.PW (kd bx) w (w.heap.size + 1) (x, puts) W) → W.cell? ⟨lb, Hg.over gk * 6 + 4, none⟩ = some (.int .i64 (Hg.g L (Hg.over gk)).1.weight) := fun W hW => (HC.out _ hW.out.below).cell (i := Hg.over gk) (by omega) (r := 4) rfl
        have a5 : ∀ W, Hid (Hg.PW (kd bx) w (w.heap.size + 1) (x, puts) W) → W.cell? ⟨lb, Hg.over gk * 6 + 5, none⟩ = some (.int .i64 (Hg.g L (Hg.over gk)).2) := fun W hW => (HC.out _ hW.out.below).cell (i := Hg.over gk) (by omega) (r := 5) rfl
        go_region_held3 (fun w' => Hid (Hg.PW (kd bx) w (w.heap.size + 1) (x, puts) w')) (first | assumption | exact Lib.hid (hW.out.next (Hg.below_drew _)) | exact Lib.hid ((hW.out.next (Hg.below_drew _)).next hB1.out)) (first | (go_at_call 119; refine (over_any gk _ (by omega) (by omega)).mono ?_; rintro e5 w5 ⟨rfl, rfl⟩) | (go_at_call 139; refine (HA.out _ _ _ _ _ (hW.out.next (Hg.below_drew _)).below).mono ?_; rintro e5 w5 ⟨rfl, hB⟩; have hB1 := Lib.hid hB; clear hB))
        have HW5 := Lib.hid ((hW.out.next (Hg.below_drew _)).next hB1.out)
        generalize hb7 : Hg.ahead ord (x, puts) ((Hg.g L (Hg.over gk)).1, (Hg.g L (Hg.over gk)).2) = b7
        have HB7 := Lib.hid hb7
        clear hb7 a0 a1 a2 a3 a4 a5
        go_wp2_with fail
        go_meet
        exact ⟨b7, rfl, rfl, Lib.hid (fun h => ⟨by omega, by subst h; exact HB7.out⟩), Lib.hid (fun h => .inr (by subst h; exact HB7.out)), HW5⟩
    case rest =>
      obtain ⟨b, rfl, rfl, hb1, hb0, hW1⟩ := hcut
      cases b
      case true =>
        have hg0 : 0 < gk := (hb1.out rfl).1
        have HB1 := Lib.hid (hb1.out rfl).2
        clear hb1 hb0
        go_wp2_with (go_at_call 119; refine (over_any gk _ (by omega) (by omega)).mono ?_; rintro e5 w5 ⟨rfl, rfl⟩)
        go_roundg (Hg.over gk)
        case measure => exact Hg.over_lt hg0
        case rel => exact ⟨rfl, by have := Hg.over_lt hg0; omega, Lib.hid (hU.out.snoc hg0 HB1.out), hW1⟩
      case false =>
        have HB0 := Lib.hid (hb0.out (by first | rfl | trivial))
        clear hb1 hb0
        have HM1 := Lib.hid (HC.out _ hW1.out.below)
        have hbox1 : wc.heap[hb]? = some (.cells #[.func (.func 74) #[] #[.pointer (some ⟨bx, 0, none⟩)], .slice ao L.length cap, .int .i64 puts] 207 (0, 0)) := HM1.out.box
        have d2 : wc.cell? ⟨hb, 2, none⟩ = some (.int .i64 puts) := heap_cell hbox1 rfl
        have g2 := heap_frozen hbox1 2
        clear hbox1
        go_wp2
        have hm2 := (HM1.out.counted (puts + 1)).1
        have ht2 := (HM1.out.counted (puts + 1)).2
        obtain ⟨W0, hW0⟩ : ∃ W, wc.setCell ⟨hb, 2, none⟩ (.int .i64 (puts + 1)) = W := ⟨_, rfl⟩
        rw [hW0] at hm2 ht2 ⊢
        have hbox2 : W0.heap[w.heap.size + 1]? = some (.cells #[.string x.name, .string x.frm, .string x.to_, .int .i64 x.delay, .int .i64 x.weight, .int .i64 puts] 209 (0, 0)) := ht2.old hW1.out.box (by have := hW1.out.new; omega)
        have hF2 : Turned (fun k => k = hb ∨ k = lb) w W0 := (Turned.of_below (R := fun _ => False) hW1.out.below).transG ht2 (fun _ _ e => e.elim) (fun _ _ e => .inl e)
        clear hW0 ht2 d2 g2
        have hbx2 : W0.heap[hb]? = some (.cells #[.func (.func 74) #[] #[.pointer (some ⟨bx, 0, none⟩)], .slice ao L.length cap, .int .i64 (puts + 1)] 207 (0, 0)) := hm2.box
        have d1 : W0.cell? ⟨hb, 1, none⟩ = some (.slice ao L.length cap) := heap_cell hbx2 rfl
        have g1 := heap_frozen hbx2 1
        have y0 : W0.cell? ⟨w.heap.size + 1, 0, none⟩ = some (.string x.name) := heap_cell hbox2 rfl
        have y1 : W0.cell? ⟨w.heap.size + 1, 1, none⟩ = some (.string x.frm) := heap_cell hbox2 rfl
        have y2 : W0.cell? ⟨w.heap.size + 1, 2, none⟩ = some (.string x.to_) := heap_cell hbox2 rfl
        have y3 : W0.cell? ⟨w.heap.size + 1, 3, none⟩ = some (.int .i64 x.delay) := heap_cell hbox2 rfl
        have y4 : W0.cell? ⟨w.heap.size + 1, 4, none⟩ = some (.int .i64 x.weight) := heap_cell hbox2 rfl
        have y5 : W0.cell? ⟨w.heap.size + 1, 5, none⟩ = some (.int .i64 puts) := heap_cell hbox2 rfl
        have HM2 := Lib.hid hm2
        have HB2 := Lib.hid hbox2
        have HF2 := Lib.hid hF2
        clear hm2 hbox2 hF2 hbx2
        have HOWN : Hid ((W0.drew.alloc (Obj.cells #[.string x.name, .string x.frm, .string x.to_, .int .i64 x.delay, .int .i64 x.weight, .int .i64 puts] 209)).ownsRow lo 209 6 (.slice ao L.length cap) L.length (Hg.encs (kd bx) L)) := Lib.hid ((HM2.out.own.drew).alloc _)
        have HNEW : Hid (∀ j u, (Hg.encs (kd bx) [(x, puts)])[j]? = some u → (W0.drew.alloc (Obj.cells #[.string x.name, .string x.frm, .string x.to_, .int .i64 x.delay, .int .i64 x.weight, .int .i64 puts] 209)).cell? ((⟨W0.heap.size, 0, none⟩ : Addr).add j) = some u) := Lib.hid (fun j u hj => by
          rw [Hg.encs_single] at hj
          rw [addr_add]
          exact heap_cell (heap_new (w := W0.drew) (Obj.cells #[.string x.name, .string x.frm, .string x.to_, .int .i64 x.delay, .int .i64 x.weight, .int .i64 puts] 209) rfl) (by rw [Nat.zero_add, ← Array.getElem?_toList]; exact hj))
        have HLO : Hid (lo ≤ W0.heap.size) := Lib.hid (Nat.le_trans hlo HF2.out.size)
        have HMB : Hid (HMem (kd bx) lo hb lb (W0.drew.alloc (Obj.cells #[.string x.name, .string x.frm, .string x.to_, .int .i64 x.delay, .int .i64 x.weight, .int .i64 puts] 209)) (.slice ao L.length cap) L (puts + 1)) := Lib.hid (HM2.out.below (((Below.refl _ _).drew).alloc (by simp) _))
        have e1 : (W0.alloc (Obj.cells #[.string x.name, .string x.frm, .string x.to_, .int .i64 x.delay, .int .i64 x.weight, .int .i64 puts] 209)).cell? ⟨hb, 1, none⟩ = some (.slice ao L.length cap) := (((Below.refl W0.heap.size W0).alloc (Nat.le_refl _) _).cell (p := ⟨hb, 1, none⟩) (heap_lt HM2.out.box)).trans d1
        obtain ⟨i0, hi, hz0, hz1, hz2⟩ := info_parts Tryz.infoEntL
        have HI := Lib.hid hi
        have HZ0 := Lib.hid hz0
        have HZ1 := Lib.hid hz1
        have HZ2 := Lib.hid hz2
        clear hi hz0 hz1 hz2
        obtain ⟨ka, hka⟩ : ∃ k, k = gk := ⟨_, rfl⟩
        subst hka
        have HAF : Hid (∀ (g5 cap5 : Nat) (w5 : World), HMem (kd bx) lo hb g5 (w5.setCell ⟨hb, 1, none⟩ (.slice (some ⟨g5, 0, none⟩) (L.length + 1) cap5)) (.slice (some ⟨g5, 0, none⟩) (L.length + 1) cap5) (L ++ [(x, puts)]) (puts + 1) →
            (g5 = lb ∨ (W0.drew.alloc (Obj.cells #[.string x.name, .string x.frm, .string x.to_, .int .i64 x.delay, .int .i64 x.weight, .int .i64 puts] 209)).heap.size ≤ g5) →
            Turned (fun k => k = hb ∨ k = lb) (W0.drew.alloc (Obj.cells #[.string x.name, .string x.frm, .string x.to_, .int .i64 x.delay, .int .i64 x.weight, .int .i64 puts] 209)) (w5.setCell ⟨hb, 1, none⟩ (.slice (some ⟨g5, 0, none⟩) (L.length + 1) cap5)) →
            Hg.Pushed (kd bx) lo hb lb w (x, puts) L puts g5 cap5 (w5.setCell ⟨hb, 1, none⟩ (.slice (some ⟨g5, 0, none⟩) (L.length + 1) cap5))) := Lib.hid (fun g5 cap5 w5 hm5 hl5 ht5 =>
          Hg.pushed_of HF2.out HB2.out HLB.out (by omega) hm5 hl5 ht5)
        have HAP : Hid (∀ (g5 cap5 : Nat) (w5 : World), w5.ownsRow lo 209 6 (.slice (some ⟨g5, 0, none⟩) (L.length + 1) cap5) (L.length + 1) (Hg.encs (kd bx) L ++ Hg.encs (kd bx) [(x, puts)]) → (W0.drew.alloc (Obj.cells #[.string x.name, .string x.frm, .string x.to_, .int .i64 x.delay, .int .i64 x.weight, .int .i64 puts] 209)).grownBy w5 (Value.slice ao L.length cap).ownBlock → ((Value.slice ao L.length cap).ownBlock = some g5 ∨ (W0.drew.alloc (Obj.cells #[.string x.name, .string x.frm, .string x.to_, .int .i64 x.delay, .int .i64 x.weight, .int .i64 puts] 209)).heap.size ≤ g5) → w5.heap[hb]? = some (.cells #[.func (.func 74) #[] #[.pointer (some ⟨bx, 0, none⟩)], .slice ao L.length cap, .int .i64 (puts + 1)] 207 (0, 0)) ∧ Hg.Pushed (kd bx) lo hb lb w (x, puts) L puts g5 cap5 (w5.setCell ⟨hb, 1, none⟩ (.slice (some ⟨g5, 0, none⟩) (L.length + 1) cap5))) := Lib.hid (fun g5 cap5 w5 h1 h2 h3 => by
          obtain ⟨hbx5, hm5, hl5, ht5⟩ := HMB.out.appended h1 h2 h3
          exact ⟨hbx5, HAF.out g5 cap5 w5 hm5 hl5 ht5⟩)
        clear HAF
        go_cut [5] from 42 to 51 (fun s5 wx => ∃ g5 cap5, s5 = .int .i64 ka ∧ Hid (Hg.Pushed (kd bx) lo hb lb w (x, puts) L puts g5 cap5 wx))
        case first =>
          go_region_law (refine step_append_where rfl (.tmp 46) (.tmp 48) 205 rfl lo 209 i0 (.agg #[.string ⟨#[]⟩, .string ⟨#[]⟩, .string ⟨#[]⟩, .int .i64 0, .int .i64 0, .int .i64 0]) 6 72 Tryz.underlying205 HI.out HZ0.out HZ1.out HZ2.out rfl (by decide) (.slice ao L.length cap) L.length (Hg.encs (kd bx) L) (by simp [Act.eval]) HOWN.out ⟨W0.heap.size, 0, none⟩ 1 1 (Hg.encs (kd bx) [(x, puts)]) (by simp [Act.eval]) (Hg.encs_length (kd bx) [(x, puts)]) HNEW.out (Hg.encs_one (kd bx) _) (by decide) (by unfold maxLen; omega) (by omega) (by have := HLO.out; simp; omega) ?_; intro g5 cap5 w5 hown5 hg5 hc5 hw5; obtain ⟨hbx5, hpu⟩ := HAP.out g5 cap5 w5 hown5 hg5 hw5; have p1 := heap_cell hbx5 (i := 1) rfl; have q1 := heap_frozen hbx5 1; have HE := Lib.hid hpu; clear hpu hown5 hg5 hc5 hw5 hbx5)
          all_goals
            go_wp2_with fail
            go_meet
            exact ⟨_, _, rfl, HE⟩
        case rest =>
          obtain ⟨g5, cap5, rfl, HP5⟩ := hcut
          have HI5 := Lib.hid (Hg.PushInv.start HH.out.1.1 hU.out)
          have hbx : wc.heap[hb]? = some (.cells #[.func (.func 74) #[] #[.pointer (some ⟨bx, 0, none⟩)], .slice (some ⟨g5, 0, none⟩) (L.length + 1) cap5, .int .i64 (puts + 1)] 207 (0, 0)) := HP5.out.mem.box
          have p1 : wc.cell? ⟨hb, 1, none⟩ = some (.slice (some ⟨g5, 0, none⟩) (L.length + 1) cap5) := heap_cell hbx rfl
          clear hbx HA HM1 HM2 HMB HOWN HNEW HI HZ0 HZ1 HZ2 HAP d1 g1 y0 y1 y2 y3 y4 y5 e1 c0 c1 c2
          go_wp2
          clear p1
          go_loopg [6] L.length (fun m b wr => ∃ M, b = .int .i64 m ∧ Hid (Hg.PushInv ord L (x, puts) ka M m) ∧ Hid (HMem (kd bx) lo hb g5 wr (.slice (some ⟨g5, 0, none⟩) (L.length + 1) cap5) M (puts + 1)) ∧ Hid (Turned (fun k => k = hb ∨ k = lb) w wr) ∧ Hid (wr.heap[w.heap.size + 1]? = some (.cells #[.string x.name, .string x.frm, .string x.to_, .int .i64 x.delay, .int .i64 x.weight, .int .i64 puts] 209 (0, 0))))
          case atStart => exact ⟨_, rfl, HI5, Lib.hid HP5.out.mem, Lib.hid HP5.out.frame, Lib.hid HP5.out.box⟩
          case round =>
            obtain ⟨M, rfl, hI, hM, hF, hB⟩ := hrel
            by_cases hlt5 : ka < gk
            · go_wp2
              have ho := Hg.over_lt (k := gk) (by omega)
              have hlen := hI.out.length
              have hgl := hI.out.le
              refine wp_region_still_tail 14 (by kernel_rfl) (by kernel_rfl) ?_
              simp only [List.take_succ_cons, List.take_zero, List.drop_succ_cons, List.drop_zero]
              obtain ⟨V, hV⟩ : ∃ V, wr.drew = V := ⟨_, rfl⟩
              have hMV : HMem (kd bx) lo hb g5 V (.slice (some ⟨g5, 0, none⟩) (L.length + 1) cap5) M (puts + 1) := by rw [← hV]; exact hM.out.below (Hg.below_drew _)
              change wpStill _ _ wr.drew (fun a' => wpList _ _ _ _ a' wr.drew) _ _
              rw [hV]
              have hbx : V.heap[hb]? = some (.cells #[.func (.func 74) #[] #[.pointer (some ⟨bx, 0, none⟩)], .slice (some ⟨g5, 0, none⟩) (L.length + 1) cap5, .int .i64 (puts + 1)] 207 (0, 0)) := hMV.box
              have d1 : V.cell? ⟨hb, 1, none⟩ = some (.slice (some ⟨g5, 0, none⟩) (L.length + 1) cap5) := heap_cell hbx rfl
              have hi0 : (0 : Int) ≤ (Hg.over gk : Nat) := by omega
              have hi1 : ((Hg.over gk : Nat) : Int) < ((L.length + 1 : Nat) : Int) := by omega
              have hi2 : (gk : Int) < ((L.length + 1 : Nat) : Int) := by omega
              have hi3 : (gk : Int) < (L.length : Int) + 1 := by omega
              have hi4 : ((Hg.over gk : Nat) : Int) < (L.length : Int) + 1 := by omega
              have hn1 : Hg.over gk < L.length + 1 := by omega
              have hn2 : gk < L.length + 1 := by omega
              have HMV := Lib.hid hMV
              have HV := Lib.hid hV
              obtain ⟨y, hy⟩ : ∃ y, Hg.g M (Hg.over gk) = y := ⟨_, rfl⟩
              have HYy := Lib.hid hy
              have a0 : V.cell? ⟨g5, Hg.over gk * 6, none⟩ = some (.string y.1.name) := hMV.cell (i := Hg.over gk) (by omega) (r := 0) (by rw [hy]; rfl)
              have a1 : V.cell? ⟨g5, Hg.over gk * 6 + 1, none⟩ = some (.string y.1.frm) := hMV.cell (i := Hg.over gk) (by omega) (r := 1) (by rw [hy]; rfl)
              have a2 : V.cell? ⟨g5, Hg.over gk * 6 + 2, none⟩ = some (.string y.1.to_) := hMV.cell (i := Hg.over gk) (by omega) (r := 2) (by rw [hy]; rfl)
              have a3 : V.cell? ⟨g5, Hg.over gk * 6 + 3, none⟩ = some (.int .i64 y.1.delay) := hMV.cell (i := Hg.over gk) (by omega) (r := 3) (by rw [hy]; rfl)
              have a4 : V.cell? ⟨g5, Hg.over gk * 6 + 4, none⟩ = some (.int .i64 y.1.weight) := hMV.cell (i := Hg.over gk) (by omega) (r := 4) (by rw [hy]; rfl)
              have a5 : V.cell? ⟨g5, Hg.over gk * 6 + 5, none⟩ = some (.int .i64 y.2) := hMV.cell (i := Hg.over gk) (by omega) (r := 5) (by rw [hy]; rfl)
              have b0 : V.cell? ⟨g5, gk * 6, none⟩ = some (.string (Hg.g M gk).1.name) := hMV.cell (i := gk) (by omega) (r := 0) rfl
              have f0 := hMV.free (by omega) (gk * 6)
              have b1 : V.cell? ⟨g5, gk * 6 + 1, none⟩ = some (.string (Hg.g M gk).1.frm) := hMV.cell (i := gk) (by omega) (r := 1) rfl
              have f1 := hMV.free (by omega) (gk * 6 + 1)
              have b2 : V.cell? ⟨g5, gk * 6 + 2, none⟩ = some (.string (Hg.g M gk).1.to_) := hMV.cell (i := gk) (by omega) (r := 2) rfl
              have f2 := hMV.free (by omega) (gk * 6 + 2)
              have b3 : V.cell? ⟨g5, gk * 6 + 3, none⟩ = some (.int .i64 (Hg.g M gk).1.delay) := hMV.cell (i := gk) (by omega) (r := 3) rfl
              have f3 := hMV.free (by omega) (gk * 6 + 3)
              have b4 : V.cell? ⟨g5, gk * 6 + 4, none⟩ = some (.int .i64 (Hg.g M gk).1.weight) := hMV.cell (i := gk) (by omega) (r := 4) rfl
              have f4 := hMV.free (by omega) (gk * 6 + 4)
              have b5 : V.cell? ⟨g5, gk * 6 + 5, none⟩ = some (.int .i64 (Hg.g M gk).2) := hMV.cell (i := gk) (by omega) (r := 5) rfl
              have f5 := hMV.free (by omega) (gk * 6 + 5)
              clear hMV hV hbx hy
              repeat still_step
              still_call (over_any gk V (by omega) (by omega)).mono (fun _ _ h => ⟨h.1, h.2.symm⟩)
              repeat still_step
              refine wpStill_nil ?_
              go_wp2_with (go_at_call 119; refine (over_any gk _ (by omega) (by omega)).mono ?_; rintro e5 w5 ⟨rfl, rfl⟩)
              have HST := Lib.hid (HMV.out.stored (i := gk) (by omega) y)
              have HST1 : Hid (HMem (kd bx) lo hb g5 ((((((V.setCell ⟨g5, gk * 6, none⟩ (.string y.1.name)).setCell ⟨g5, gk * 6 + 1, none⟩ (.string y.1.frm)).setCell ⟨g5, gk * 6 + 2, none⟩ (.string y.1.to_)).setCell ⟨g5, gk * 6 + 3, none⟩ (.int .i64 y.1.delay)).setCell ⟨g5, gk * 6 + 4, none⟩ (.int .i64 y.1.weight)).setCell ⟨g5, gk * 6 + 5, none⟩ (.int .i64 y.2)) (.slice (some ⟨g5, 0, none⟩) (L.length + 1) cap5) (M.set gk y) (puts + 1)) := Lib.hid HST.out.1
              have HST2 : Hid (Turned (fun k => k = g5) V ((((((V.setCell ⟨g5, gk * 6, none⟩ (.string y.1.name)).setCell ⟨g5, gk * 6 + 1, none⟩ (.string y.1.frm)).setCell ⟨g5, gk * 6 + 2, none⟩ (.string y.1.to_)).setCell ⟨g5, gk * 6 + 3, none⟩ (.int .i64 y.1.delay)).setCell ⟨g5, gk * 6 + 4, none⟩ (.int .i64 y.1.weight)).setCell ⟨g5, gk * 6 + 5, none⟩ (.int .i64 y.2))) := Lib.hid HST.out.2
              have HFV : Hid (Turned (fun k => k = hb ∨ k = lb) w V) := Lib.hid (by have := hF.out.transG (Turned.of_below (R := fun _ => False) (Hg.below_drew wr)) (fun _ _ e => e) (fun _ _ e => e.elim); rw [HV.out] at this; exact this)
              have HBV : Hid (V.heap[w.heap.size + 1]? = some (.cells #[.string x.name, .string x.frm, .string x.to_, .int .i64 x.delay, .int .i64 x.weight, .int .i64 puts] 209 (0, 0))) := Lib.hid (by rw [← HV.out]; exact hB.out)
              go_roundg (Hg.over gk)
              case measure => exact ho
              case rel =>
                exact ⟨M.set gk y, rfl, Lib.hid (by rw [← HYy.out]; exact hI.out.next HH.out.1.1 hlt5), HST1, Lib.hid (HFV.out.transG HST2.out (fun _ _ e => e) (fun i hi e => HP5.out.row.elim (fun h => .inr (e.trans h)) (fun h => by omega))),
                  Lib.hid (HST2.out.old HBV.out (fun e => HP5.out.apart e.symm))⟩
            · obtain ⟨hka, hH1, hH2⟩ := hI.out.last hlt5 HB0.out
              subst hka
              have hlen := hI.out.length
              have hgl := hI.out.le
              go_wp2
              refine wp_region_still_tail 7 (by kernel_rfl) (by kernel_rfl) ?_
              simp only [List.take_succ_cons, List.take_zero, List.drop_succ_cons, List.drop_zero]
              obtain ⟨V, hV⟩ : ∃ V, wr.drew = V := ⟨_, rfl⟩
              have hMV : HMem (kd bx) lo hb g5 V (.slice (some ⟨g5, 0, none⟩) (L.length + 1) cap5) M (puts + 1) := by rw [← hV]; exact hM.out.below (Hg.below_drew _)
              have HFV : Hid (Turned (fun k => k = hb ∨ k = lb) w V) := Lib.hid (by have := hF.out.transG (Turned.of_below (R := fun _ => False) (Hg.below_drew wr)) (fun _ _ e => e) (fun _ _ e => e.elim); rw [hV] at this; exact this)
              have hBV : V.heap[w.heap.size + 1]? = some (.cells #[.string x.name, .string x.frm, .string x.to_, .int .i64 x.delay, .int .i64 x.weight, .int .i64 puts] 209 (0, 0)) := by rw [← hV]; exact hB.out
              change wpStill _ _ wr.drew (fun a' => wpList _ _ _ _ a' wr.drew) _ _
              rw [hV]
              have hbx : V.heap[hb]? = some (.cells #[.func (.func 74) #[] #[.pointer (some ⟨bx, 0, none⟩)], .slice (some ⟨g5, 0, none⟩) (L.length + 1) cap5, .int .i64 (puts + 1)] 207 (0, 0)) := hMV.box
              have d1 : V.cell? ⟨hb, 1, none⟩ = some (.slice (some ⟨g5, 0, none⟩) (L.length + 1) cap5) := heap_cell hbx rfl
              have y0 : V.cell? ⟨w.heap.size + 1, 0, none⟩ = some (.string x.name) := heap_cell hBV rfl
              have y1 : V.cell? ⟨w.heap.size + 1, 1, none⟩ = some (.string x.frm) := heap_cell hBV rfl
              have y2 : V.cell? ⟨w.heap.size + 1, 2, none⟩ = some (.string x.to_) := heap_cell hBV rfl
              have y3 : V.cell? ⟨w.heap.size + 1, 3, none⟩ = some (.int .i64 x.delay) := heap_cell hBV rfl
              have y4 : V.cell? ⟨w.heap.size + 1, 4, none⟩ = some (.int .i64 x.weight) := heap_cell hBV rfl
              have y5 : V.cell? ⟨w.heap.size + 1, 5, none⟩ = some (.int .i64 puts) := heap_cell hBV rfl
              have hi2 : (gk : Int) < ((L.length + 1 : Nat) : Int) := by omega
              have hi3 : (gk : Int) < (L.length : Int) + 1 := by omega
              have hn2 : gk < L.length + 1 := by omega
              have b0 : V.cell? ⟨g5, gk * 6, none⟩ = some (.string (Hg.g M gk).1.name) := hMV.cell (i := gk) (by omega) (r := 0) rfl
              have f0 := hMV.free (by omega) (gk * 6)
              have b1 : V.cell? ⟨g5, gk * 6 + 1, none⟩ = some (.string (Hg.g M gk).1.frm) := hMV.cell (i := gk) (by omega) (r := 1) rfl
              have f1 := hMV.free (by omega) (gk * 6 + 1)
              have b2 : V.cell? ⟨g5, gk * 6 + 2, none⟩ = some (.string (Hg.g M gk).1.to_) := hMV.cell (i := gk) (by omega) (r := 2) rfl
              have f2 := hMV.free (by omega) (gk * 6 + 2)
              have b3 : V.cell? ⟨g5, gk * 6 + 3, none⟩ = some (.int .i64 (Hg.g M gk).1.delay) := hMV.cell (i := gk) (by omega) (r := 3) rfl
              have f3 := hMV.free (by omega) (gk * 6 + 3)
              have b4 : V.cell? ⟨g5, gk * 6 + 4, none⟩ = some (.int .i64 (Hg.g M gk).1.weight) := hMV.cell (i := gk) (by omega) (r := 4) rfl
              have f4 := hMV.free (by omega) (gk * 6 + 4)
              have b5 : V.cell? ⟨g5, gk * 6 + 5, none⟩ = some (.int .i64 (Hg.g M gk).2) := hMV.cell (i := gk) (by omega) (r := 5) rfl
              have f5 := hMV.free (by omega) (gk * 6 + 5)
              have HST := Lib.hid (hMV.stored (i := gk) (by omega) (x, puts))
              have HST1 : Hid (HMem (kd bx) lo hb g5 ((((((V.setCell ⟨g5, gk * 6, none⟩ (.string x.name)).setCell ⟨g5, gk * 6 + 1, none⟩ (.string x.frm)).setCell ⟨g5, gk * 6 + 2, none⟩ (.string x.to_)).setCell ⟨g5, gk * 6 + 3, none⟩ (.int .i64 x.delay)).setCell ⟨g5, gk * 6 + 4, none⟩ (.int .i64 x.weight)).setCell ⟨g5, gk * 6 + 5, none⟩ (.int .i64 puts)) (.slice (some ⟨g5, 0, none⟩) (L.length + 1) cap5) (M.set gk (x, puts)) (puts + 1)) := Lib.hid HST.out.1
              have HST2 : Hid (Turned (fun k => k = g5) V ((((((V.setCell ⟨g5, gk * 6, none⟩ (.string x.name)).setCell ⟨g5, gk * 6 + 1, none⟩ (.string x.frm)).setCell ⟨g5, gk * 6 + 2, none⟩ (.string x.to_)).setCell ⟨g5, gk * 6 + 3, none⟩ (.int .i64 x.delay)).setCell ⟨g5, gk * 6 + 4, none⟩ (.int .i64 x.weight)).setCell ⟨g5, gk * 6 + 5, none⟩ (.int .i64 puts))) := Lib.hid HST.out.2
              clear hMV hBV hV hbx
              repeat still_step
              refine wpStill_nil ?_
              go_wp2
              go_end0
              refine ⟨rfl, g5, ⟨_, _, HST1.out, HH.out.1.push x hH1 hH2⟩, HP5.out.row, HFV.out.transG HST2.out (fun _ _ e => e) (fun i hi e => HP5.out.row.elim (fun h => .inr (e.trans h)) (fun h => by omega))⟩

end Go.Proofs.YtjcmeacgfflfmaaGreat.HeL

namespace Go.Proofs.YtjcmeacgfflfmaaGreat.HeL
open Go.RowKit Go.Shelf Go.Proofs.YtjcmeacgfflfmaaGreat.Md
open Go.Proofs.YtjcmeacgfflfmaaGreat.Hg (HMem HIs Kd encT)

theorem Tryz.zeroEntL (w : World) : (zeroValue 209).run Tryz.prog w = .ok (.agg #[.string ⟨#[]⟩, .string ⟨#[]⟩, .string ⟨#[]⟩, .int .i64 0, .int .i64 0, .int .i64 0]) w := by kernel_rfl
theorem clear_one (W : World) (lb i c : Nat) (h0 : (W.cell? ⟨lb, i, none⟩).isSome = true) (h1 : (W.cell? ⟨lb, i + 1, none⟩).isSome = true) (h2 : (W.cell? ⟨lb, i + 2, none⟩).isSome = true) (h3 : (W.cell? ⟨lb, i + 3, none⟩).isSome = true) (h4 : (W.cell? ⟨lb, i + 4, none⟩).isSome = true) (h5 : (W.cell? ⟨lb, i + 5, none⟩).isSome = true)
    (f0 : W.frozen? ⟨lb, i, none⟩ = false) (f1 : W.frozen? ⟨lb, i + 1, none⟩ = false) (f2 : W.frozen? ⟨lb, i + 2, none⟩ = false) (f3 : W.frozen? ⟨lb, i + 3, none⟩ = false) (f4 : W.frozen? ⟨lb, i + 4, none⟩ = false) (f5 : W.frozen? ⟨lb, i + 5, none⟩ = false) (ty : TypeId) :
    (Builtin.clear_ #[205] ty #[.slice (some ⟨lb, i, none⟩) 1 c]).run Tryz.prog W = .ok (.tuple #[]) ((((((W.setCell ⟨lb, i, none⟩ (.string ⟨#[]⟩)).setCell ⟨lb, i + 1, none⟩ (.string ⟨#[]⟩)).setCell ⟨lb, i + 2, none⟩ (.string ⟨#[]⟩)).setCell ⟨lb, i + 3, none⟩ (.int .i64 0)).setCell ⟨lb, i + 4, none⟩ (.int .i64 0)).setCell ⟨lb, i + 5, none⟩ (.int .i64 0)) := by
  have hzc : (Builtin.zeroCells #[Value.string ⟨#[]⟩, Value.string ⟨#[]⟩, Value.string ⟨#[]⟩, Value.int IntKind.i64 0, Value.int IntKind.i64 0, Value.int IntKind.i64 0] 1).toList = [Value.string ⟨#[]⟩, Value.string ⟨#[]⟩, Value.string ⟨#[]⟩, Value.int IntKind.i64 0, Value.int IntKind.i64 0, Value.int IntKind.i64 0] := by
    simp [Builtin.zeroCells, Array.range]
  have hst := run_storeCells_cells (P := Tryz.prog) lb i [Value.string ⟨#[]⟩, Value.string ⟨#[]⟩, Value.string ⟨#[]⟩, Value.int IntKind.i64 0, Value.int IntKind.i64 0, Value.int IntKind.i64 0] 0 W
    (by intro j hj; match j, hj with | 0, _ => exact h0 | 1, _ => exact h1 | 2, _ => exact h2 | 3, _ => exact h3 | 4, _ => exact h4 | 5, _ => exact h5 | j + 6, hj => simp at hj; omega)
    (by intro j hj; match j, hj with | 0, _ => exact f0 | 1, _ => exact f1 | 2, _ => exact f2 | 3, _ => exact f3 | 4, _ => exact f4 | 5, _ => exact f5 | j + 6, hj => simp at hj; omega)
    (by intro v hv; simp only [List.mem_cons, List.not_mem_nil, or_false] at hv; rcases hv with rfl | rfl | rfl | rfl | rfl | rfl <;> rfl)
  simp only [Nat.add_zero] at hst
  simp [Builtin.clear_, run_underlying Tryz.underlying205, Value.cells, hzc, hst]
  rfl

set_option maxRecDepth 100000 in
set_option maxHeartbeats 8000000 in
theorem pop_any (bx : Nat) {lo hb lb : Nat} {w : World} {row : List LinkM} {puts : Int} (hn0 : Nm bx w) (h : HIs (kd bx) ord lo hb lb w row puts) (hs : row.length ≤ 100001) :
    Calls Tryz.prog 141 #[.pointer (some ⟨hb, 0, none⟩)] w fun e w' => e = .returned (.tuple #[.agg #[.string (Hg.topV z ord row).name, .string (Hg.topV z ord row).frm, .string (Hg.topV z ord row).to_, .int .i64 (Hg.topV z ord row).delay, .int .i64 (Hg.topV z ord row).weight], .bool (decide (row.length ≠ 0))]) ∧ HIs (kd bx) ord lo hb lb w' (row.eraseIdx (Hg.first ord row)) puts ∧ Turned (fun k => k = hb ∨ k = lb) w w' := by
  have HP := Lib.hid (fun (W : World) (hB : Below w.heap.size w W) => peek_any bx (h.below hB))
  by_cases h0 : row.length = 0
  · have hd : decide (row.length ≠ 0) = false := by simp [h0]
    have HE : Hid (HIs (kd bx) ord lo hb lb w (row.eraseIdx (Hg.first ord row)) puts) := Lib.hid (by
      obtain rfl : row = [] := List.length_eq_zero_iff.1 h0
      exact h)
    clear h h0 hn0
    go_enter Tryz.func141, Tryz.ntmps141
    go_wp2_with fail
    refine (HP.out _ ((Below.refl _ _).alloc (Nat.le_refl _) _)).mono ?_
    rintro e w1 ⟨rfl, hB⟩
    rw [hd]
    generalize htv : Hg.topV z ord row = tv at *
    have HTV := Lib.hid htv
    clear htv
    have hr := heap_below (heap_new (w := w) (.cells #[.string ⟨#[]⟩, .string ⟨#[]⟩, .string ⟨#[]⟩, .int .i64 0, .int .i64 0] 42) rfl) hB (by simp)
    have r0 : w1.cell? ⟨w.heap.size, 0, none⟩ = some (.string ⟨#[]⟩) := heap_cell hr rfl
    have s0 := heap_frozen hr 0
    have r1 : w1.cell? ⟨w.heap.size, 1, none⟩ = some (.string ⟨#[]⟩) := heap_cell hr rfl
    have s1 := heap_frozen hr 1
    have r2 : w1.cell? ⟨w.heap.size, 2, none⟩ = some (.string ⟨#[]⟩) := heap_cell hr rfl
    have s2 := heap_frozen hr 2
    have r3 : w1.cell? ⟨w.heap.size, 3, none⟩ = some (.int .i64 0) := heap_cell hr rfl
    have s3 := heap_frozen hr 3
    have r4 : w1.cell? ⟨w.heap.size, 4, none⟩ = some (.int .i64 0) := heap_cell hr rfl
    have s4 := heap_frozen hr 4
    have hz : w.heap.size < w1.heap.size := heap_lt hr
    have HB := Lib.hid (((Below.refl w.heap.size w).alloc (Nat.le_refl _) (.cells #[.string ⟨#[]⟩, .string ⟨#[]⟩, .string ⟨#[]⟩, .int .i64 0, .int .i64 0] 42)).trans (hB.mono (by simp)))
    have hF : ((((((w1.setCell ⟨w.heap.size, 0, none⟩ (.string tv.name)).setCell ⟨w.heap.size, 1, none⟩ (.string tv.frm)).setCell ⟨w.heap.size, 2, none⟩ (.string tv.to_)).setCell ⟨w.heap.size, 3, none⟩ (.int .i64 tv.delay)).setCell ⟨w.heap.size, 4, none⟩ (.int .i64 tv.weight)).alloc (.cells #[.string tv.name, .string tv.frm, .string tv.to_, .int .i64 tv.delay, .int .i64 tv.weight] 42)).heap[w.heap.size]? = some (.cells #[.string tv.name, .string tv.frm, .string tv.to_, .int .i64 tv.delay, .int .i64 tv.weight] 42 (0, 0)) := heap_alloc (heap_set (heap_set (heap_set (heap_set (heap_set hr 0 _) 1 _) 2 _) 3 _) 4 _) _
    have HF := Lib.hid hF
    have HB' : Hid (Below w.heap.size w ((((((w1.setCell ⟨w.heap.size, 0, none⟩ (.string tv.name)).setCell ⟨w.heap.size, 1, none⟩ (.string tv.frm)).setCell ⟨w.heap.size, 2, none⟩ (.string tv.to_)).setCell ⟨w.heap.size, 3, none⟩ (.int .i64 tv.delay)).setCell ⟨w.heap.size, 4, none⟩ (.int .i64 tv.weight)).alloc (.cells #[.string tv.name, .string tv.frm, .string tv.to_, .int .i64 tv.delay, .int .i64 tv.weight] 42))) := Lib.hid (((((((HB.out).setCell (p := ⟨w.heap.size, 0, none⟩) (Nat.le_refl _) (.string tv.name)).setCell (p := ⟨w.heap.size, 1, none⟩) (Nat.le_refl _) (.string tv.frm)).setCell (p := ⟨w.heap.size, 2, none⟩) (Nat.le_refl _) (.string tv.to_)).setCell (p := ⟨w.heap.size, 3, none⟩) (Nat.le_refl _) (.int .i64 tv.delay)).setCell (p := ⟨w.heap.size, 4, none⟩) (Nat.le_refl _) (.int .i64 tv.weight)).alloc (by simp [World.setCell]; omega) _)
    clear hr hB HP hF
    go_wp2
    have p0 : ((((((w1.setCell ⟨w.heap.size, 0, none⟩ (.string tv.name)).setCell ⟨w.heap.size, 1, none⟩ (.string tv.frm)).setCell ⟨w.heap.size, 2, none⟩ (.string tv.to_)).setCell ⟨w.heap.size, 3, none⟩ (.int .i64 tv.delay)).setCell ⟨w.heap.size, 4, none⟩ (.int .i64 tv.weight)).alloc (.cells #[.string tv.name, .string tv.frm, .string tv.to_, .int .i64 tv.delay, .int .i64 tv.weight] 42)).cell? ⟨w.heap.size, 0, none⟩ = some (.string tv.name) := heap_cell HF.out rfl
    have p1 : ((((((w1.setCell ⟨w.heap.size, 0, none⟩ (.string tv.name)).setCell ⟨w.heap.size, 1, none⟩ (.string tv.frm)).setCell ⟨w.heap.size, 2, none⟩ (.string tv.to_)).setCell ⟨w.heap.size, 3, none⟩ (.int .i64 tv.delay)).setCell ⟨w.heap.size, 4, none⟩ (.int .i64 tv.weight)).alloc (.cells #[.string tv.name, .string tv.frm, .string tv.to_, .int .i64 tv.delay, .int .i64 tv.weight] 42)).cell? ⟨w.heap.size, 1, none⟩ = some (.string tv.frm) := heap_cell HF.out rfl
    have p2 : ((((((w1.setCell ⟨w.heap.size, 0, none⟩ (.string tv.name)).setCell ⟨w.heap.size, 1, none⟩ (.string tv.frm)).setCell ⟨w.heap.size, 2, none⟩ (.string tv.to_)).setCell ⟨w.heap.size, 3, none⟩ (.int .i64 tv.delay)).setCell ⟨w.heap.size, 4, none⟩ (.int .i64 tv.weight)).alloc (.cells #[.string tv.name, .string tv.frm, .string tv.to_, .int .i64 tv.delay, .int .i64 tv.weight] 42)).cell? ⟨w.heap.size, 2, none⟩ = some (.string tv.to_) := heap_cell HF.out rfl
    have p3 : ((((((w1.setCell ⟨w.heap.size, 0, none⟩ (.string tv.name)).setCell ⟨w.heap.size, 1, none⟩ (.string tv.frm)).setCell ⟨w.heap.size, 2, none⟩ (.string tv.to_)).setCell ⟨w.heap.size, 3, none⟩ (.int .i64 tv.delay)).setCell ⟨w.heap.size, 4, none⟩ (.int .i64 tv.weight)).alloc (.cells #[.string tv.name, .string tv.frm, .string tv.to_, .int .i64 tv.delay, .int .i64 tv.weight] 42)).cell? ⟨w.heap.size, 3, none⟩ = some (.int .i64 tv.delay) := heap_cell HF.out rfl
    have p4 : ((((((w1.setCell ⟨w.heap.size, 0, none⟩ (.string tv.name)).setCell ⟨w.heap.size, 1, none⟩ (.string tv.frm)).setCell ⟨w.heap.size, 2, none⟩ (.string tv.to_)).setCell ⟨w.heap.size, 3, none⟩ (.int .i64 tv.delay)).setCell ⟨w.heap.size, 4, none⟩ (.int .i64 tv.weight)).alloc (.cells #[.string tv.name, .string tv.frm, .string tv.to_, .int .i64 tv.delay, .int .i64 tv.weight] 42)).cell? ⟨w.heap.size, 4, none⟩ = some (.int .i64 tv.weight) := heap_cell HF.out rfl
    exact bodyPost_ret (v := .tuple #[.agg #[.string tv.name, .string tv.frm, .string tv.to_, .int .i64 tv.delay, .int .i64 tv.weight], .bool false]) (by simp [results, Tryz.f141, go_sem, p0, p1, p2, p3, p4]) rfl ⟨by rw [hd, HTV.out], HE.out.below HB'.out, Turned.of_below HB'.out⟩
  · have hd : decide (row.length ≠ 0) = true := by simp [h0]
    obtain ⟨v, L, hm, hh⟩ := h
    have hl := hh.length
    have hlt := heap_lt hm.box
    have HR := Lib.hid (fun (e : LinkM × Int) (n : Nat) (hn : n ≤ L.length) (W : World) (hB : Below w.heap.size w W) => room_any bx (hn0.below hB) (hm.below hB) e n hn (by omega))
    have HC := Lib.hid (fun (W : World) (hB : Below w.heap.size w W) => (hm.below hB))
    have HH := Lib.hid (And.intro hh hl)
    have HLB := Lib.hid hm.lt
    have hsh : ∃ cap, v = .slice (some ⟨lb, 0, none⟩) L.length cap ∧ L.length ≤ cap := by
      rcases hm.shape with ⟨rfl, rfl⟩ | ⟨cap, cur, rfl, _, _, hc, _⟩
      · exact absurd hl.symm h0
      · exact ⟨cap, rfl, hc⟩
    obtain ⟨cap, rfl, hcap⟩ := hsh
    -- the list, and its last one
    obtain ⟨M, e0, rfl⟩ : ∃ M e0, L = M ++ [e0] := ⟨L.dropLast, L.getLast (by intro e; subst e; exact h0 hl.symm), (List.dropLast_concat_getLast _).symm⟩
    have hLs : M.length ≤ 100000 := by simp at hl; omega
    clear hm hh hl h0 hn0
    simp only [List.length_append, List.length_cons, List.length_nil, Nat.zero_add] at *
    go_enter Tryz.func141, Tryz.ntmps141
    go_wp2_with fail
    refine (HP.out _ ((Below.refl _ _).alloc (Nat.le_refl _) _)).mono ?_
    rintro e w1 ⟨rfl, hB⟩
    rw [hd]
    have hr := heap_below (heap_new (w := w) (.cells #[.string ⟨#[]⟩, .string ⟨#[]⟩, .string ⟨#[]⟩, .int .i64 0, .int .i64 0] 42) rfl) hB (by simp)
    have hz : w.heap.size < w1.heap.size := heap_lt hr
    have HB := Lib.hid (((Below.refl w.heap.size w).alloc (Nat.le_refl _) (.cells #[.string ⟨#[]⟩, .string ⟨#[]⟩, .string ⟨#[]⟩, .int .i64 0, .int .i64 0] 42)).trans (hB.mono (by simp)))
    have hmr := HC.out _ HB.out
    have hbx1 : w1.heap[hb]? = some (.cells #[.func (.func 74) #[] #[.pointer (some ⟨bx, 0, none⟩)], .slice (some ⟨lb, 0, none⟩) (M.length + 1) cap, .int .i64 puts] 207 (0, 0)) := hmr.box
    have d1 : w1.cell? ⟨hb, 1, none⟩ = some (.slice (some ⟨lb, 0, none⟩) (M.length + 1) cap) := heap_cell hbx1 rfl
    have hlast : Hg.g (M ++ [e0]) M.length = e0 := Hg.g_append_at M e0
    have a0 : w1.cell? ⟨lb, M.length * 6, none⟩ = some (.string e0.1.name) := hmr.cell (i := M.length) (by simp) (r := 0) (by rw [hlast]; rfl)
    have a1 : w1.cell? ⟨lb, M.length * 6 + 1, none⟩ = some (.string e0.1.frm) := hmr.cell (i := M.length) (by simp) (r := 1) (by rw [hlast]; rfl)
    have a2 : w1.cell? ⟨lb, M.length * 6 + 2, none⟩ = some (.string e0.1.to_) := hmr.cell (i := M.length) (by simp) (r := 2) (by rw [hlast]; rfl)
    have a3 : w1.cell? ⟨lb, M.length * 6 + 3, none⟩ = some (.int .i64 e0.1.delay) := hmr.cell (i := M.length) (by simp) (r := 3) (by rw [hlast]; rfl)
    have a4 : w1.cell? ⟨lb, M.length * 6 + 4, none⟩ = some (.int .i64 e0.1.weight) := hmr.cell (i := M.length) (by simp) (r := 4) (by rw [hlast]; rfl)
    have a5 : w1.cell? ⟨lb, M.length * 6 + 5, none⟩ = some (.int .i64 e0.2) := hmr.cell (i := M.length) (by simp) (r := 5) (by rw [hlast]; rfl)
    have HRB := Lib.hid hr
    have hzb : hb < w1.heap.size := heap_lt hmr.box
    have hzl : lb < w1.heap.size := hmr.lt
    clear hr hB HP hmr hbx1 hlast
    generalize htv : Hg.topV z ord row = tv at *
    have HTV := Lib.hid htv
    clear htv
    have hi0 : (M.length : Int) < (M.length : Int) + 1 := by omega
    have hn1 : M.length < M.length + 1 := by omega
    go_wp2_with fail
    have hB2 : Below w.heap.size w ((w1.alloc (.cells #[.string tv.name, .string tv.frm, .string tv.to_, .int .i64 tv.delay, .int .i64 tv.weight] 42)).alloc (.cells #[.string e0.1.name, .string e0.1.frm, .string e0.1.to_, .int .i64 e0.1.delay, .int .i64 e0.1.weight, .int .i64 e0.2] 209)) :=
      (HB.out.alloc (by omega) _).alloc (by simp; omega) _
    refine (HR.out e0 M.length (by omega) _ hB2).mono ?_
    rintro e w2 ⟨r, rfl, hrm, hB⟩
    have hW2 : Hg.PopW (kd bx) 42 lo hb lb w w1.heap.size (w1.heap.size + 1) tv z (.slice (some ⟨lb, 0, none⟩) (M.length + 1) cap) puts e0 (M ++ [e0]) w2 := by
      have hP : Hg.PopW (kd bx) 42 lo hb lb w w1.heap.size (w1.heap.size + 1) tv z (.slice (some ⟨lb, 0, none⟩) (M.length + 1) cap) puts e0 (M ++ [e0]) ((w1.alloc (.cells #[.string tv.name, .string tv.frm, .string tv.to_, .int .i64 tv.delay, .int .i64 tv.weight] 42)).alloc (.cells #[.string e0.1.name, .string e0.1.frm, .string e0.1.to_, .int .i64 e0.1.delay, .int .i64 e0.1.weight, .int .i64 e0.2] 209)) :=
        ⟨Turned.of_below hB2, HC.out _ hB2, heap_new _ (by simp), heap_alloc (heap_new _ rfl) _, heap_alloc (heap_alloc HRB.out _) _⟩
      exact hP.next hB
    rw [List.take_left] at hrm
    have HROT := Lib.hid (Hg.RotInv.start (Hg.M_heap HH.out.1.1) hrm)
    have HLT := Lib.hid hrm.lt
    have HW2 := Lib.hid hW2
    have n1 : w1.heap.size + 1 ≠ hb := by omega
    have n2 : w1.heap.size + 1 ≠ lb := by omega
    have n3 : w1.heap.size + 1 ≠ w1.heap.size := by omega
    have n4 : w.heap.size < w1.heap.size + 1 := by omega
    have n5 : w1.heap.size ≠ lb := by omega
    have n6 : w1.heap.size ≠ hb := by omega
    clear hW2 hrm hB hB2 HR HC d1 a0 a1 a2 a3 a4 a5 hz hzb hzl HRB HB
    go_wp2
    generalize w1.heap.size + 1 = B7 at *
    generalize w1.heap.size = B4 at *
    have n7 : lb ≠ B7 := fun e => n2 e.symm
    have n8 : hb ≠ B7 := fun e => n1 e.symm
    have n9 : lb ≠ B4 := fun e => n5 e.symm
    have n10 : hb ≠ B4 := fun e => n6 e.symm
    have n11 : B4 ≠ B7 := fun e => n3 e.symm
    have n12 : lb ≠ hb := by
      rcases HW2.out.mem.shape with ⟨h, _⟩ | ⟨_, _, _, _, _, _, _, _, _, h⟩
      · simp at h
      · exact h
    have n13 : hb ≠ lb := fun e => n12 e.symm
    go_loopg [8] r (fun m a wr => ∃ N x, a = .int .i64 m ∧ Hid (m < M.length ∨ m = 0) ∧ Hid (Hg.RotInv ord M e0 N x m) ∧ Hid (Hg.PopW (kd bx) 42 lo hb lb w B4 B7 tv z (.slice (some ⟨lb, 0, none⟩) (M.length + 1) cap) puts x (N ++ [e0]) wr))
    case atStart => exact ⟨_, _, rfl, HLT, HROT, HW2⟩
    case round =>
      obtain ⟨N, x, rfl, hML, hI, hW⟩ := hrel
      by_cases hg : 0 < gk
      · have hlen := hI.out.length
        have hML2 := hML.out
        have hgM : gk < M.length := by omega
        go_wp2
        have hWV := hW.out
        have hbxV : wr.heap[hb]? = some (.cells #[.func (.func 74) #[] #[.pointer (some ⟨bx, 0, none⟩)], .slice (some ⟨lb, 0, none⟩) (M.length + 1) cap, .int .i64 puts] 207 (0, 0)) := hWV.mem.box
        have d1 : wr.cell? ⟨hb, 1, none⟩ = some (.slice (some ⟨lb, 0, none⟩) (M.length + 1) cap) := heap_cell hbxV rfl
        have htmp : wr.heap[B7]? = some (.cells #[.string x.1.name, .string x.1.frm, .string x.1.to_, .int .i64 x.1.delay, .int .i64 x.1.weight, .int .i64 x.2] 209 (0, 0)) := hWV.tmp
        have y0 : wr.cell? ⟨B7, 0, none⟩ = some (.string x.1.name) := heap_cell htmp rfl
        have v0 := heap_frozen htmp 0
        have y1 : wr.cell? ⟨B7, 1, none⟩ = some (.string x.1.frm) := heap_cell htmp rfl
        have v1 := heap_frozen htmp 1
        have y2 : wr.cell? ⟨B7, 2, none⟩ = some (.string x.1.to_) := heap_cell htmp rfl
        have v2 := heap_frozen htmp 2
        have y3 : wr.cell? ⟨B7, 3, none⟩ = some (.int .i64 x.1.delay) := heap_cell htmp rfl
        have v3 := heap_frozen htmp 3
        have y4 : wr.cell? ⟨B7, 4, none⟩ = some (.int .i64 x.1.weight) := heap_cell htmp rfl
        have v4 := heap_frozen htmp 4
        have y5 : wr.cell? ⟨B7, 5, none⟩ = some (.int .i64 x.2) := heap_cell htmp rfl
        have v5 := heap_frozen htmp 5
        have hgl : Hg.g (N ++ [e0]) gk = Hg.g N gk := Hg.g_append_left _ _ (by omega)
        obtain ⟨y, hy⟩ : ∃ y, Hg.g N gk = y := ⟨_, rfl⟩
        rw [hy] at hgl
        have c0 : wr.cell? ⟨lb, gk * 6, none⟩ = some (.string y.1.name) := hWV.mem.cell (i := gk) (by simp; omega) (r := 0) (by rw [hgl]; rfl)
        have f0 : wr.frozen? ⟨lb, gk * 6, none⟩ = false := hWV.mem.free (by simp) _
        have c1 : wr.cell? ⟨lb, gk * 6 + 1, none⟩ = some (.string y.1.frm) := hWV.mem.cell (i := gk) (by simp; omega) (r := 1) (by rw [hgl]; rfl)
        have f1 : wr.frozen? ⟨lb, gk * 6 + 1, none⟩ = false := hWV.mem.free (by simp) _
        have c2 : wr.cell? ⟨lb, gk * 6 + 2, none⟩ = some (.string y.1.to_) := hWV.mem.cell (i := gk) (by simp; omega) (r := 2) (by rw [hgl]; rfl)
        have f2 : wr.frozen? ⟨lb, gk * 6 + 2, none⟩ = false := hWV.mem.free (by simp) _
        have c3 : wr.cell? ⟨lb, gk * 6 + 3, none⟩ = some (.int .i64 y.1.delay) := hWV.mem.cell (i := gk) (by simp; omega) (r := 3) (by rw [hgl]; rfl)
        have f3 : wr.frozen? ⟨lb, gk * 6 + 3, none⟩ = false := hWV.mem.free (by simp) _
        have c4 : wr.cell? ⟨lb, gk * 6 + 4, none⟩ = some (.int .i64 y.1.weight) := hWV.mem.cell (i := gk) (by simp; omega) (r := 4) (by rw [hgl]; rfl)
        have f4 : wr.frozen? ⟨lb, gk * 6 + 4, none⟩ = false := hWV.mem.free (by simp) _
        have c5 : wr.cell? ⟨lb, gk * 6 + 5, none⟩ = some (.int .i64 y.2) := hWV.mem.cell (i := gk) (by simp; omega) (r := 5) (by rw [hgl]; rfl)
        have f5 : wr.frozen? ⟨lb, gk * 6 + 5, none⟩ = false := hWV.mem.free (by simp) _
        have HYy := Lib.hid hy
        have hi2 : (gk : Int) < (M.length : Int) + 1 := by omega
        have hi3 : (0 : Int) ≤ (gk : Int) := by omega
        have hn2 : gk < M.length + 1 := by omega
        have hw1 := (hWV.temp n1 n2 n3 n4 y).stored n2 n5 HLB.out (i := gk) (by simp; omega) x
        rw [show (N ++ [e0]).set gk x = N.set gk x ++ [e0] by rw [List.set_append_left _ _ (by omega)]] at hw1
        have HW1 : Hid (Hg.PopW (kd bx) 42 lo hb lb w B4 B7 tv z (.slice (some ⟨lb, 0, none⟩) (M.length + 1) cap) puts y (N.set gk x ++ [e0]) (((((((((((((wr.setCell ⟨B7, 0, none⟩ (.string y.1.name)).setCell ⟨B7, 1, none⟩ (.string y.1.frm)).setCell ⟨B7, 2, none⟩ (.string y.1.to_)).setCell ⟨B7, 3, none⟩ (.int .i64 y.1.delay)).setCell ⟨B7, 4, none⟩ (.int .i64 y.1.weight)).setCell ⟨B7, 5, none⟩ (.int .i64 y.2)).setCell ⟨lb, gk * 6, none⟩ (.string x.1.name)).setCell ⟨lb, gk * 6 + 1, none⟩ (.string x.1.frm)).setCell ⟨lb, gk * 6 + 2, none⟩ (.string x.1.to_)).setCell ⟨lb, gk * 6 + 3, none⟩ (.int .i64 x.1.delay)).setCell ⟨lb, gk * 6 + 4, none⟩ (.int .i64 x.1.weight)).setCell ⟨lb, gk * 6 + 5, none⟩ (.int .i64 x.2))).drew) := Lib.hid (hw1.next (Hg.below_drew _))
        clear hw1 hWV hbxV htmp hgl hy
        go_region
        all_goals
          go_wp2_with (go_at_call 119; refine (over_any gk _ (by omega) (by omega)).mono ?_; rintro e5 w5 ⟨rfl, rfl⟩)
          go_roundg (Hg.over gk)
          case measure => exact Hg.over_lt hg
          case rel =>
            exact ⟨N.set gk x, y, rfl, Lib.hid (by have := Hg.over_lt hg; omega), Lib.hid (by rw [← HYy.out]; exact hI.out.next (Hg.M_heap HH.out.1.1) hg), HW1⟩
      · obtain rfl : gk = 0 := by omega
        have hlen := hI.out.length
        obtain ⟨hF1, hF2⟩ := hI.out.last
        go_wp2
        refine wp_region_still_tail 6 (by kernel_rfl) (by kernel_rfl) ?_
        simp only [List.take_succ_cons, List.take_zero, List.drop_succ_cons, List.drop_zero]
        obtain ⟨V, hV⟩ : ∃ V, wr.drew = V := ⟨_, rfl⟩
        have hWV : Hg.PopW (kd bx) 42 lo hb lb w B4 B7 tv z (.slice (some ⟨lb, 0, none⟩) (M.length + 1) cap) puts x (N ++ [e0]) V := by rw [← hV]; exact hW.out.next (Hg.below_drew _)
        change wpStill _ _ wr.drew (fun a' => wpList _ _ _ _ a' wr.drew) _ _
        rw [hV]
        have hbxV : V.heap[hb]? = some (.cells #[.func (.func 74) #[] #[.pointer (some ⟨bx, 0, none⟩)], .slice (some ⟨lb, 0, none⟩) (M.length + 1) cap, .int .i64 puts] 207 (0, 0)) := hWV.mem.box
        have d1 : V.cell? ⟨hb, 1, none⟩ = some (.slice (some ⟨lb, 0, none⟩) (M.length + 1) cap) := heap_cell hbxV rfl
        have htmp : V.heap[B7]? = some (.cells #[.string x.1.name, .string x.1.frm, .string x.1.to_, .int .i64 x.1.delay, .int .i64 x.1.weight, .int .i64 x.2] 209 (0, 0)) := hWV.tmp
        have y0 : V.cell? ⟨B7, 0, none⟩ = some (.string x.1.name) := heap_cell htmp rfl
        have y1 : V.cell? ⟨B7, 1, none⟩ = some (.string x.1.frm) := heap_cell htmp rfl
        have y2 : V.cell? ⟨B7, 2, none⟩ = some (.string x.1.to_) := heap_cell htmp rfl
        have y3 : V.cell? ⟨B7, 3, none⟩ = some (.int .i64 x.1.delay) := heap_cell htmp rfl
        have y4 : V.cell? ⟨B7, 4, none⟩ = some (.int .i64 x.1.weight) := heap_cell htmp rfl
        have y5 : V.cell? ⟨B7, 5, none⟩ = some (.int .i64 x.2) := heap_cell htmp rfl
        have c0 : V.cell? ⟨lb, 0, none⟩ = some (.string (Hg.g (N ++ [e0]) 0).1.name) := by have := hWV.mem.cell (i := 0) (by simp) (r := 0) (u := .string (Hg.g (N ++ [e0]) 0).1.name) rfl; rwa [Nat.zero_mul, Nat.zero_add] at this
        have f0 : V.frozen? ⟨lb, 0, none⟩ = false := hWV.mem.free (by simp) _
        have c1 : V.cell? ⟨lb, 1, none⟩ = some (.string (Hg.g (N ++ [e0]) 0).1.frm) := by have := hWV.mem.cell (i := 0) (by simp) (r := 1) (u := .string (Hg.g (N ++ [e0]) 0).1.frm) rfl; rwa [Nat.zero_mul, Nat.zero_add] at this
        have f1 : V.frozen? ⟨lb, 1, none⟩ = false := hWV.mem.free (by simp) _
        have c2 : V.cell? ⟨lb, 2, none⟩ = some (.string (Hg.g (N ++ [e0]) 0).1.to_) := by have := hWV.mem.cell (i := 0) (by simp) (r := 2) (u := .string (Hg.g (N ++ [e0]) 0).1.to_) rfl; rwa [Nat.zero_mul, Nat.zero_add] at this
        have f2 : V.frozen? ⟨lb, 2, none⟩ = false := hWV.mem.free (by simp) _
        have c3 : V.cell? ⟨lb, 3, none⟩ = some (.int .i64 (Hg.g (N ++ [e0]) 0).1.delay) := by have := hWV.mem.cell (i := 0) (by simp) (r := 3) (u := .int .i64 (Hg.g (N ++ [e0]) 0).1.delay) rfl; rwa [Nat.zero_mul, Nat.zero_add] at this
        have f3 : V.frozen? ⟨lb, 3, none⟩ = false := hWV.mem.free (by simp) _
        have c4 : V.cell? ⟨lb, 4, none⟩ = some (.int .i64 (Hg.g (N ++ [e0]) 0).1.weight) := by have := hWV.mem.cell (i := 0) (by simp) (r := 4) (u := .int .i64 (Hg.g (N ++ [e0]) 0).1.weight) rfl; rwa [Nat.zero_mul, Nat.zero_add] at this
        have f4 : V.frozen? ⟨lb, 4, none⟩ = false := hWV.mem.free (by simp) _
        have c5 : V.cell? ⟨lb, 5, none⟩ = some (.int .i64 (Hg.g (N ++ [e0]) 0).2) := by have := hWV.mem.cell (i := 0) (by simp) (r := 5) (u := .int .i64 (Hg.g (N ++ [e0]) 0).2) rfl; rwa [Nat.zero_mul, Nat.zero_add] at this
        have f5 : V.frozen? ⟨lb, 5, none⟩ = false := hWV.mem.free (by simp) _
        have hw1 := hWV.stored n2 n5 HLB.out (i := 0) (by simp) x
        rw [Nat.zero_mul] at hw1
        have HW1 : Hid (Hg.PopW (kd bx) 42 lo hb lb w B4 B7 tv z (.slice (some ⟨lb, 0, none⟩) (M.length + 1) cap) puts x ((N ++ [e0]).set 0 x) ((((((V.setCell ⟨lb, 0, none⟩ (.string x.1.name)).setCell ⟨lb, 1, none⟩ (.string x.1.frm)).setCell ⟨lb, 2, none⟩ (.string x.1.to_)).setCell ⟨lb, 3, none⟩ (.int .i64 x.1.delay)).setCell ⟨lb, 4, none⟩ (.int .i64 x.1.weight)).setCell ⟨lb, 5, none⟩ (.int .i64 x.2))) := Lib.hid hw1
        clear hw1 hWV hV hbxV htmp
        have hp0 : (0 : Int) < (M.length : Int) + 1 := by omega
        repeat still_step
        refine wpStill_nil ?_
        have HV := Lib.hid hlen
        clear hlen
        go_upto_region 11 with fail
        clear d1 y0 y1 y2 y3 y4 y5 c0 c1 c2 c3 c4 c5 f0 f1 f2 f3 f4 f5
        generalize ((((((V.setCell ⟨lb, 0, none⟩ (.string x.1.name)).setCell ⟨lb, 1, none⟩ (.string x.1.frm)).setCell ⟨lb, 2, none⟩ (.string x.1.to_)).setCell ⟨lb, 3, none⟩ (.int .i64 x.1.delay)).setCell ⟨lb, 4, none⟩ (.int .i64 x.1.weight)).setCell ⟨lb, 5, none⟩ (.int .i64 x.2)) = V1 at *
        have hMl : M.length < ((N ++ [e0]).set 0 x).length := by rw [List.length_set, List.length_append, HV.out]; simp
        have hw2 := HW1.out.stored n2 n5 HLB.out hMl (z, 0)
        rw [← HV.out, Hg.set_last] at hw2
        have hbxV : V1.heap[hb]? = some (.cells #[.func (.func 74) #[] #[.pointer (some ⟨bx, 0, none⟩)], .slice (some ⟨lb, 0, none⟩) (M.length + 1) cap, .int .i64 puts] 207 (0, 0)) := HW1.out.mem.box
        have d1 : V1.cell? ⟨hb, 1, none⟩ = some (.slice (some ⟨lb, 0, none⟩) (M.length + 1) cap) := heap_cell hbxV rfl
        have c0 : V1.cell? ⟨lb, M.length * 6, none⟩ = some (.string (Hg.g ((N ++ [e0]).set 0 x) M.length).1.name) := HW1.out.mem.cell (i := M.length) hMl (r := 0) rfl
        have f0 : V1.frozen? ⟨lb, M.length * 6, none⟩ = false := HW1.out.mem.free (by omega) _
        have c1 : V1.cell? ⟨lb, M.length * 6 + 1, none⟩ = some (.string (Hg.g ((N ++ [e0]).set 0 x) M.length).1.frm) := HW1.out.mem.cell (i := M.length) hMl (r := 1) rfl
        have f1 : V1.frozen? ⟨lb, M.length * 6 + 1, none⟩ = false := HW1.out.mem.free (by omega) _
        have c2 : V1.cell? ⟨lb, M.length * 6 + 2, none⟩ = some (.string (Hg.g ((N ++ [e0]).set 0 x) M.length).1.to_) := HW1.out.mem.cell (i := M.length) hMl (r := 2) rfl
        have f2 : V1.frozen? ⟨lb, M.length * 6 + 2, none⟩ = false := HW1.out.mem.free (by omega) _
        have c3 : V1.cell? ⟨lb, M.length * 6 + 3, none⟩ = some (.int .i64 (Hg.g ((N ++ [e0]).set 0 x) M.length).1.delay) := HW1.out.mem.cell (i := M.length) hMl (r := 3) rfl
        have f3 : V1.frozen? ⟨lb, M.length * 6 + 3, none⟩ = false := HW1.out.mem.free (by omega) _
        have c4 : V1.cell? ⟨lb, M.length * 6 + 4, none⟩ = some (.int .i64 (Hg.g ((N ++ [e0]).set 0 x) M.length).1.weight) := HW1.out.mem.cell (i := M.length) hMl (r := 4) rfl
        have f4 : V1.frozen? ⟨lb, M.length * 6 + 4, none⟩ = false := HW1.out.mem.free (by omega) _
        have c5 : V1.cell? ⟨lb, M.length * 6 + 5, none⟩ = some (.int .i64 (Hg.g ((N ++ [e0]).set 0 x) M.length).2) := HW1.out.mem.cell (i := M.length) hMl (r := 5) rfl
        have f5 : V1.frozen? ⟨lb, M.length * 6 + 5, none⟩ = false := HW1.out.mem.free (by omega) _
        have hcl := clear_one V1 lb (M.length * 6) (cap - M.length) (by rw [c0]; rfl) (by rw [c1]; rfl) (by rw [c2]; rfl) (by rw [c3]; rfl) (by rw [c4]; rfl) (by rw [c5]; rfl) f0 f1 f2 f3 f4 f5
        rw [HV.out] at hw2
        have HW2 : Hid (Hg.PopW (kd bx) 42 lo hb lb w B4 B7 tv z (.slice (some ⟨lb, 0, none⟩) (M.length + 1) cap) puts x (N.set 0 x ++ [(z, 0)]) ((((((V1.setCell ⟨lb, M.length * 6, none⟩ (.string ⟨#[]⟩)).setCell ⟨lb, M.length * 6 + 1, none⟩ (.string ⟨#[]⟩)).setCell ⟨lb, M.length * 6 + 2, none⟩ (.string ⟨#[]⟩)).setCell ⟨lb, M.length * 6 + 3, none⟩ (.int .i64 0)).setCell ⟨lb, M.length * 6 + 4, none⟩ (.int .i64 0)).setCell ⟨lb, M.length * 6 + 5, none⟩ (.int .i64 0))) := Lib.hid hw2
        clear hw2 hMl c0 c1 c2 c3 c4 c5 f0 f1 f2 f3 f4 f5 hbxV
        go_upto_region 12 with (simp only [hcl])
        clear d1 hcl
        generalize ((((((V1.setCell ⟨lb, M.length * 6, none⟩ (.string ⟨#[]⟩)).setCell ⟨lb, M.length * 6 + 1, none⟩ (.string ⟨#[]⟩)).setCell ⟨lb, M.length * 6 + 2, none⟩ (.string ⟨#[]⟩)).setCell ⟨lb, M.length * 6 + 3, none⟩ (.int .i64 0)).setCell ⟨lb, M.length * 6 + 4, none⟩ (.int .i64 0)).setCell ⟨lb, M.length * 6 + 5, none⟩ (.int .i64 0)) = V2 at *
        have hNl : (N.set 0 x).length = M.length := by rw [List.length_set]; exact HV.out
        have hcut := HMem.cut (N := N.set 0 x) (y := (z, 0)) (by rw [hNl]; exact HW2.out.mem)
        rw [hNl] at hcut
        have hbxV : V2.heap[hb]? = some (.cells #[.func (.func 74) #[] #[.pointer (some ⟨bx, 0, none⟩)], .slice (some ⟨lb, 0, none⟩) (M.length + 1) cap, .int .i64 puts] 207 (0, 0)) := HW2.out.mem.box
        have d1 : V2.cell? ⟨hb, 1, none⟩ = some (.slice (some ⟨lb, 0, none⟩) (M.length + 1) cap) := heap_cell hbxV rfl
        have g1 := heap_frozen hbxV 1
        have hres0 : V2.heap[w.heap.size]? = some (.cells #[.string ⟨#[]⟩, .string ⟨#[]⟩, .string ⟨#[]⟩, .int .i64 0, .int .i64 0] 42 (0, 0)) := HW2.out.res
        have hlst : V2.heap[B4]? = some (.cells #[.string tv.name, .string tv.frm, .string tv.to_, .int .i64 tv.delay, .int .i64 tv.weight] 42 (0, 0)) := HW2.out.least
        have r0 : V2.cell? ⟨w.heap.size, 0, none⟩ = some (.string ⟨#[]⟩) := heap_cell hres0 rfl
        have s0 := heap_frozen hres0 0
        have r1 : V2.cell? ⟨w.heap.size, 1, none⟩ = some (.string ⟨#[]⟩) := heap_cell hres0 rfl
        have s1 := heap_frozen hres0 1
        have r2 : V2.cell? ⟨w.heap.size, 2, none⟩ = some (.string ⟨#[]⟩) := heap_cell hres0 rfl
        have s2 := heap_frozen hres0 2
        have r3 : V2.cell? ⟨w.heap.size, 3, none⟩ = some (.int .i64 0) := heap_cell hres0 rfl
        have s3 := heap_frozen hres0 3
        have r4 : V2.cell? ⟨w.heap.size, 4, none⟩ = some (.int .i64 0) := heap_cell hres0 rfl
        have s4 := heap_frozen hres0 4
        have l0 : V2.cell? ⟨B4, 0, none⟩ = some (.string tv.name) := heap_cell hlst rfl
        have l1 : V2.cell? ⟨B4, 1, none⟩ = some (.string tv.frm) := heap_cell hlst rfl
        have l2 : V2.cell? ⟨B4, 2, none⟩ = some (.string tv.to_) := heap_cell hlst rfl
        have l3 : V2.cell? ⟨B4, 3, none⟩ = some (.int .i64 tv.delay) := heap_cell hlst rfl
        have l4 : V2.cell? ⟨B4, 4, none⟩ = some (.int .i64 tv.weight) := heap_cell hlst rfl
        have n14 : w.heap.size ≠ hb := by omega
        have n15 : hb ≠ w.heap.size := by omega
        have hres1 : (V2.setCell ⟨hb, 1, none⟩ (.slice (some ⟨lb, 0, none⟩) M.length cap)).heap[w.heap.size]? = some (.cells #[.string ⟨#[]⟩, .string ⟨#[]⟩, .string ⟨#[]⟩, .int .i64 0, .int .i64 0] 42 (0, 0)) := hcut.2.old hres0 n14
        have hres : ((((((V2.setCell ⟨hb, 1, none⟩ (.slice (some ⟨lb, 0, none⟩) M.length cap)).setCell ⟨w.heap.size, 0, none⟩ (.string tv.name)).setCell ⟨w.heap.size, 1, none⟩ (.string tv.frm)).setCell ⟨w.heap.size, 2, none⟩ (.string tv.to_)).setCell ⟨w.heap.size, 3, none⟩ (.int .i64 tv.delay)).setCell ⟨w.heap.size, 4, none⟩ (.int .i64 tv.weight)).heap[w.heap.size]? = some (.cells #[.string tv.name, .string tv.frm, .string tv.to_, .int .i64 tv.delay, .int .i64 tv.weight] 42 (0, 0)) := heap_set (heap_set (heap_set (heap_set (heap_set (hres1) 0 _) 1 _) 2 _) 3 _) 4 _
        have t5 : Turned (fun k => k = w.heap.size) (V2.setCell ⟨hb, 1, none⟩ (.slice (some ⟨lb, 0, none⟩) M.length cap)) ((((((V2.setCell ⟨hb, 1, none⟩ (.slice (some ⟨lb, 0, none⟩) M.length cap)).setCell ⟨w.heap.size, 0, none⟩ (.string tv.name)).setCell ⟨w.heap.size, 1, none⟩ (.string tv.frm)).setCell ⟨w.heap.size, 2, none⟩ (.string tv.to_)).setCell ⟨w.heap.size, 3, none⟩ (.int .i64 tv.delay)).setCell ⟨w.heap.size, 4, none⟩ (.int .i64 tv.weight)) := Hg.setC_turned [.string tv.name, .string tv.frm, .string tv.to_, .int .i64 tv.delay, .int .i64 tv.weight] _ w.heap.size 0
        have HF5 := Lib.hid (hcut.1.turned t5 n15 (by have := HLB.out; omega))
        have HT5 := Lib.hid ((HW2.out.frame.transG hcut.2 (fun _ _ e => e) (fun _ _ e => .inl e)).transG t5 (fun _ _ e => e) (fun i hi e => by omega))
        have HRES := Lib.hid hres
        clear hcut hres t5 hres0 hres1 hlst hbxV
        go_wp2
        have p0 : ((((((V2.setCell ⟨hb, 1, none⟩ (.slice (some ⟨lb, 0, none⟩) M.length cap)).setCell ⟨w.heap.size, 0, none⟩ (.string tv.name)).setCell ⟨w.heap.size, 1, none⟩ (.string tv.frm)).setCell ⟨w.heap.size, 2, none⟩ (.string tv.to_)).setCell ⟨w.heap.size, 3, none⟩ (.int .i64 tv.delay)).setCell ⟨w.heap.size, 4, none⟩ (.int .i64 tv.weight)).cell? ⟨w.heap.size, 0, none⟩ = some (.string tv.name) := heap_cell HRES.out rfl
        have p1 : ((((((V2.setCell ⟨hb, 1, none⟩ (.slice (some ⟨lb, 0, none⟩) M.length cap)).setCell ⟨w.heap.size, 0, none⟩ (.string tv.name)).setCell ⟨w.heap.size, 1, none⟩ (.string tv.frm)).setCell ⟨w.heap.size, 2, none⟩ (.string tv.to_)).setCell ⟨w.heap.size, 3, none⟩ (.int .i64 tv.delay)).setCell ⟨w.heap.size, 4, none⟩ (.int .i64 tv.weight)).cell? ⟨w.heap.size, 1, none⟩ = some (.string tv.frm) := heap_cell HRES.out rfl
        have p2 : ((((((V2.setCell ⟨hb, 1, none⟩ (.slice (some ⟨lb, 0, none⟩) M.length cap)).setCell ⟨w.heap.size, 0, none⟩ (.string tv.name)).setCell ⟨w.heap.size, 1, none⟩ (.string tv.frm)).setCell ⟨w.heap.size, 2, none⟩ (.string tv.to_)).setCell ⟨w.heap.size, 3, none⟩ (.int .i64 tv.delay)).setCell ⟨w.heap.size, 4, none⟩ (.int .i64 tv.weight)).cell? ⟨w.heap.size, 2, none⟩ = some (.string tv.to_) := heap_cell HRES.out rfl
        have p3 : ((((((V2.setCell ⟨hb, 1, none⟩ (.slice (some ⟨lb, 0, none⟩) M.length cap)).setCell ⟨w.heap.size, 0, none⟩ (.string tv.name)).setCell ⟨w.heap.size, 1, none⟩ (.string tv.frm)).setCell ⟨w.heap.size, 2, none⟩ (.string tv.to_)).setCell ⟨w.heap.size, 3, none⟩ (.int .i64 tv.delay)).setCell ⟨w.heap.size, 4, none⟩ (.int .i64 tv.weight)).cell? ⟨w.heap.size, 3, none⟩ = some (.int .i64 tv.delay) := heap_cell HRES.out rfl
        have p4 : ((((((V2.setCell ⟨hb, 1, none⟩ (.slice (some ⟨lb, 0, none⟩) M.length cap)).setCell ⟨w.heap.size, 0, none⟩ (.string tv.name)).setCell ⟨w.heap.size, 1, none⟩ (.string tv.frm)).setCell ⟨w.heap.size, 2, none⟩ (.string tv.to_)).setCell ⟨w.heap.size, 3, none⟩ (.int .i64 tv.delay)).setCell ⟨w.heap.size, 4, none⟩ (.int .i64 tv.weight)).cell? ⟨w.heap.size, 4, none⟩ = some (.int .i64 tv.weight) := heap_cell HRES.out rfl
        exact bodyPost_ret (v := .tuple #[.agg #[.string tv.name, .string tv.frm, .string tv.to_, .int .i64 tv.delay, .int .i64 tv.weight], .bool true]) (by simp [results, Tryz.f141, go_sem, p0, p1, p2, p3, p4]) rfl ⟨by rw [hd, HTV.out], ⟨_, _, HF5.out, HH.out.1.pop (by intro e; subst e; simp at hd) hF1 hF2⟩, HT5.out⟩

end Go.Proofs.YtjcmeacgfflfmaaGreat.HeL

namespace Go.Proofs.YtjcmeacgfflfmaaGreat.HeL
open Go.RowKit Go.Shelf Go.Proofs.YtjcmeacgfflfmaaGreat.Md
open Go.Proofs.YtjcmeacgfflfmaaGreat.Hg (HMem HIs Kd encT)
attribute [local go_sem] Oper.semAt_some

theorem drain_any (hb : Nat) (w : World) :
    Calls Tryz.prog 117 #[.pointer (some ⟨hb, 0, none⟩)] w fun e w' => e = .returned (.func (.func 140) #[] #[.pointer (some ⟨w.heap.size, 0, none⟩)]) ∧ w.alloc (.cells #[.pointer (some ⟨hb, 0, none⟩)] 162) = w' := by
  go_enter Tryz.func117, Tryz.ntmps117
  go_wp2
  go_ret
  exact ⟨rfl, rfl⟩
theorem pop_cons (bx : Nat) {lo hb lb : Nat} {w : World} {row : List LinkM} {puts : Int} (hn0 : Nm bx w) (h : HIs (kd bx) ord lo hb lb w row puts) (hs : row.length ≤ 100001) (h0 : row.length ≠ 0) :
    Calls Tryz.prog 141 #[.pointer (some ⟨hb, 0, none⟩)] w fun e w' => e = .returned (.tuple #[.agg #[.string (Hg.top ord row).name, .string (Hg.top ord row).frm, .string (Hg.top ord row).to_, .int .i64 (Hg.top ord row).delay, .int .i64 (Hg.top ord row).weight], .bool true]) ∧ HIs (kd bx) ord lo hb lb w' (Hg.rest ord row) puts ∧ Turned (fun k => k = hb ∨ k = lb) w w' :=
  (pop_any bx hn0 h hs).mono fun e w' ⟨he, h1, h2⟩ => ⟨by rw [he, Hg.topV_of z ord h0, decide_eq_true h0]; rfl, h1, h2⟩
theorem pop_nil (bx : Nat) {lo hb lb : Nat} {w : World} {row : List LinkM} {puts : Int} (hn0 : Nm bx w) (h : HIs (kd bx) ord lo hb lb w row puts) (h0 : row.length = 0) :
    Calls Tryz.prog 141 #[.pointer (some ⟨hb, 0, none⟩)] w fun e w' => e = .returned (.tuple #[.agg #[.string ⟨#[]⟩, .string ⟨#[]⟩, .string ⟨#[]⟩, .int .i64 0, .int .i64 0], .bool false]) ∧ HIs (kd bx) ord lo hb lb w' [] puts ∧ Turned (fun k => k = hb ∨ k = lb) w w' :=
  (pop_any bx hn0 h (by omega)).mono fun e w' ⟨he, h1, h2⟩ => ⟨by rw [he, Hg.topV_nil z ord h0, decide_eq_false (by omega)]; rfl, by rw [Hg.nil_of h0] at h1; exact h1, h2⟩
def eIt (x : LinkM) : Array Value := #[.agg #[.string x.name, .string x.frm, .string x.to_, .int .i64 x.delay, .int .i64 x.weight]]

set_option maxRecDepth 100000 in
set_option maxHeartbeats 4000000 in
theorem drain_turns (nb : Nat) (n : Nat) (hn : 1 ≤ n) {lo hb lb bx : Nat} {w : World} {row : List LinkM} {puts : Int} (h : HIs (kd nb) ord lo hb lb w row puts) (hs : row.length ≤ 100001)
    (hbx : w.heap[bx]? = some (.cells #[.pointer (some ⟨hb, 0, none⟩)] 162 (0, 0))) (h1 : bx ≠ hb) (h2 : bx ≠ lb) (hn0 : Nm nb w) (h3 : nb ≠ hb) (h4 : nb ≠ lb) :
    SeqTurns Fence.wide n Tryz.prog 140 #[.pointer (some ⟨bx, 0, none⟩)] eIt (fun k => k = hb ∨ k = lb) (Hg.Keep4 hb lb bx nb) (Hg.DrainS (kd nb) ord lo hb lb row puts) (Hg.DrainP (kd nb) ord lo hb lb row puts) row.length w := by
  intro l J Jx W hW hJT hY h0
  have H0 := Lib.hid (h.below hW)
  have HBX := Lib.hid (heap_below hbx hW (heap_lt hbx))
  have HN := Lib.hid (hn0.below hW)
  have HJT := Lib.hid hJT
  clear h hbx hW hJT hn0
  refine callsIn_of_wp Tryz.func140 rfl trivial ?_ rfl
  simp only [Tryz.ntmps140, List.size_toArray, List.length_cons, List.length_nil, Nat.reduceAdd, Nat.reduceSub, Array.replicate_succ, Array.replicate_zero, List.push_toArray, List.append_toArray, List.nil_append, List.cons_append]
  gi_wp2
  gi_loopw [4] (fun s wr => ∃ k : Nat, k ≤ row.length ∧ Hid (J (Hg.outs ord k row) wr) ∧ Hid (HIs (kd nb) ord lo hb lb wr (Hg.left ord k row) puts) ∧ Hid (wr.heap[bx]? = some (.cells #[.pointer (some ⟨hb, 0, none⟩)] 162 (0, 0))) ∧ Hid (Nm nb wr))
    (fun _ wr => Hg.hlen hb wr)
  case atStart => exact ⟨0, Nat.zero_le _, Lib.hid h0, H0, HBX, HN⟩
  case round =>
    obtain ⟨k, hk, hJ, hH, hB, hN⟩ := hrel
    have b0 : wr.cell? ⟨bx, 0, none⟩ = some (.pointer (some ⟨hb, 0, none⟩)) := heap_cell hB.out rfl
    have hll := Hg.left_length (kf := ord) k row
    by_cases hkl : k = row.length
    · have HPop := Lib.hid (pop_nil nb hN.out hH.out (by omega))
      have HK2 := Lib.hid hkl
      clear hY hkl hll
      gi_wp2_with (refine ⟨trivial, ?_⟩; gi_at_call 141; refine (callsIn_wide.2 HPop.out).mono ?_; rintro e w1 ⟨rfl, hP1, hP2⟩; have HP1 := Lib.hid hP1; have HP2 := Lib.hid hP2; clear hP1 hP2)
      refine ⟨fun _ h => (by cases h), ?_⟩
      gi_wp2
      refine bodyPost_ret (results_none rfl _ _ _) rfl ?_
      have hta : Turned (fun k => k = hb ∨ k = lb) w1 (w1.alloc (.cells #[.string ⟨#[]⟩, .string ⟨#[]⟩, .string ⟨#[]⟩, .int .i64 0, .int .i64 0] 42)) := Turned.of_below ((Below.refl w1.heap.size w1).alloc (Nat.le_refl _) _)
      refine ⟨⟨_, rfl⟩, .inl ⟨_, ⟨rfl, HP1.out.below ((Below.refl w1.heap.size w1).alloc (Nat.le_refl _) _)⟩, ?_⟩⟩
      have h5 := HJT.out _ _ _ (HJT.out _ _ _ hJ.out HP2.out) hta
      rw [Hg.outs_all k row (by have := HK2.out; omega)] at h5
      exact h5
    · have HPop := Lib.hid (pop_cons nb hN.out hH.out (by omega) (by omega))
      have HK2 := Lib.hid hkl
      have HL := Lib.hid hll
      clear hkl hll
      obtain ⟨x, hx⟩ : ∃ x, Hg.top ord (Hg.left ord k row) = x := ⟨_, rfl⟩
      rw [hx] at HPop
      have HX := Lib.hid hx
      clear hx
      gi_wp2_with (refine ⟨trivial, ?_⟩; gi_at_call 141; refine (callsIn_wide.2 HPop.out).mono ?_; rintro e w1 ⟨rfl, hP1, hP2⟩; refine Hid.out ?_)
      have hJ1 := HJT.out _ _ _ (HJT.out _ _ _ hJ.out hP2) (Turned.of_below (((Below.refl w1.heap.size w1).alloc (Nat.le_refl _) (.cells #[.string x.name, .string x.frm, .string x.to_, .int .i64 x.delay, .int .i64 x.weight] 42))))
      obtain ⟨fn, tmps, assign, body, hy, hR⟩ := hY _ x _ hJ1 (by rw [Hg.outs_length]; have := HK2.out; omega)
      unfold eIt at hy
      refine Lib.hid ?_
      have HR := Lib.hid hR
      have HP1 := Lib.hid hP1
      have HP2 := Lib.hid hP2
      clear hR hP1 hP2 hJ1
      gi_wp2
      refine HR.out.mono ?_
      rintro e W3 ⟨hk3, (⟨rfl, hJ3⟩ | ⟨rfl, hJ3⟩)⟩
      · have HJ3 := Lib.hid hJ3
        have HK3 := Lib.hid hk3
        clear hJ3 hk3
        gi_wp2
        have hba := (Below.refl w1.heap.size w1).alloc (Nat.le_refl _) (.cells #[.string x.name, .string x.frm, .string x.to_, .int .i64 x.delay, .int .i64 x.weight] 42)
        have hk1 : k < row.length := by have := HK2.out; omega
        have hH5 := (HP1.out.below hba).keep HK3.out
        rw [← Hg.left_snoc k row hk1] at hH5
        have hB5 := HK3.out.ptr.trans (heap_below (HP2.out.old hB.out (fun e => e.elim h1 h2)) hba (heap_lt (HP2.out.old hB.out (fun e => e.elim h1 h2))))
        have hN5 : Nm nb W3 := ((hN.out.turned HP2.out (fun e => e.elim h3 h4)).below hba).far HK3.out.far
        have HH5 := Lib.hid hH5
        have HB5 := Lib.hid hB5
        have HN5 := Lib.hid hN5
        have HJ5 : Hid (J (Hg.outs ord (k + 1) row) W3) := Lib.hid (by rw [Hg.outs_snoc k row hk1, HX.out]; exact HJ3.out)
        clear hH5 hB5 hN5
        go_roundw
        case rel => exact ⟨k + 1, by omega, HJ5, HH5, HB5, HN5⟩
        case measure =>
          rw [HH5.out.hlen, hH.out.hlen, Hg.left_length, Hg.left_length]
          omega
      · have HJ3 := Lib.hid hJ3
        have HK3 := Lib.hid hk3
        clear hJ3 hk3
        gi_wp2
        refine bodyPost_ret (results_none rfl _ _ _) rfl ?_
        have hba := (Below.refl w1.heap.size w1).alloc (Nat.le_refl _) (.cells #[.string x.name, .string x.frm, .string x.to_, .int .i64 x.delay, .int .i64 x.weight] 42)
        have hk1 : k < row.length := by have := HK2.out; omega
        have hH5 := (HP1.out.below hba).keep HK3.out
        rw [← Hg.left_snoc k row hk1] at hH5
        refine ⟨⟨_, rfl⟩, .inr ⟨_, ⟨k + 1, rfl, by omega, by omega, hH5⟩, ?_⟩⟩
        rw [Hg.outs_snoc k row hk1, HX.out]
        exact HJ3.out

set_option maxRecDepth 100000 in
set_option maxHeartbeats 8000000 in
theorem sort_any (bx : Nat) {w : World} {a : Option Addr} {b off len cap : Nat} {row : List LinkM} (h : RowsAt encL fitL 5 w.heap.size w a b off len row) (hs : len ≤ 100000) (hn0 : Nm bx w) (hbx : bx < w.heap.size) :
    Calls Tryz.prog 73 #[.slice a len cap, .func (.func 74) #[] #[.pointer (some ⟨bx, 0, none⟩)]] w (CloneQ encL fitL 5 42 w len (Hg.srt ord row)) := by
  have HIA := Lib.hid h
  have HNM := Lib.hid hn0
  have hrl := h.length
  clear h hn0
  refine (callsIn_wide (n := 3)).1 ?_
  refine callsIn_of_wp_marks Tryz.func73 rfl trivial ?_ rfl
  simp only [Tryz.ntmps73, List.size_toArray, List.length_cons, List.length_nil, Nat.reduceAdd, Nat.reduceSub, Array.replicate_succ, Array.replicate_zero, List.push_toArray, List.append_toArray, List.nil_append, List.cons_append]
  gi_wp2_with (refine ⟨trivial, ?_⟩; gi_at_call 115; refine (callsIn_wide.2 (new_any bx _)).mono ?_; rintro e w1 ⟨rfl, hN, hB⟩; have HN := Lib.hid (And.intro hN hB); clear hN hB)
  gi_loopw [14] (fun i wr => ∃ k lb : Nat, i = .int .i64 k ∧ k ≤ len ∧ w.heap.size ≤ lb ∧ Hid (HIs (kd bx) ord w.heap.size w.heap.size lb wr (row.take k) k) ∧ Hid (Below w.heap.size w wr)) (fun i _ => len - (intOf i).toNat)
  case atStart => exact ⟨0, w.heap.size, rfl, Nat.zero_le _, Nat.le_refl _, Lib.hid HN.out.1, Lib.hid HN.out.2⟩
  case round =>
    obtain ⟨k, lb, rfl, hk, hlb, hH, hB⟩ := hrel
    by_cases hkl : k < len
    · have hIA := HIA.out.kept hB.out (Nat.le_refl _)
      have ha : a = some ⟨b, off, none⟩ := hIA.addr.resolve_left (by omega)
      subst ha
      obtain ⟨x, hx⟩ : ∃ x, row[k]? = some x := ⟨_, List.getElem?_eq_getElem (by omega)⟩
      have c0 : wr.cell? ⟨b, off + k * 5 + 0, none⟩ = some (.string x.name) := hIA.cell k x hx 0 _ rfl
      have c1 : wr.cell? ⟨b, off + k * 5 + 1, none⟩ = some (.string x.frm) := hIA.cell k x hx 1 _ rfl
      have c2 : wr.cell? ⟨b, off + k * 5 + 2, none⟩ = some (.string x.to_) := hIA.cell k x hx 2 _ rfl
      have c3 : wr.cell? ⟨b, off + k * 5 + 3, none⟩ = some (.int .i64 x.delay) := hIA.cell k x hx 3 _ rfl
      have c4 : wr.cell? ⟨b, off + k * 5 + 4, none⟩ = some (.int .i64 x.weight) := hIA.cell k x hx 4 _ rfl
      simp only [Nat.add_zero] at c0 c1 c2 c3 c4
      have HP := Lib.hid (fun (W : World) (hb : Below wr.heap.size wr W) => push_any bx (HNM.out.below (hB.out.trans (hb.mono hB.out.size))) (hH.out.below hb) x (by rw [List.length_take]; omega) (by omega) (by omega) (Nat.le_trans hB.out.size hb.size))
      have HX := Lib.hid hx
      clear hx hIA
      gi_wp2_with (refine ⟨trivial, ?_⟩; gi_at_call 116; refine (callsIn_wide.2 (HP.out _ ((Below.refl _ _).alloc (Nat.le_refl _) _))).mono ?_; rintro e w2 ⟨rfl, lb', hH2, hl2, ht2⟩; have HH2 := Lib.hid (And.intro hH2 (And.intro hl2 ht2)); clear hH2 hl2 ht2)
      go_roundw
      case rel =>
        obtain ⟨e1, e2, e3⟩ := HH2.out
        have e4 := hH.out.lts.2
        refine ⟨k + 1, lb', by go_num, by omega, ?_, Lib.hid ?_, Lib.hid ?_⟩
        · rcases e2 with rfl | e2
          · exact hlb
          · have := hB.out.size; simp at e2; omega
        · rw [List.take_add_one, HX.out]
          have e5 : ((k + 1 : Nat) : Int) = (k : Int) + 1 := by omega
          rw [e5]
          exact e1
        · exact (hB.out.alloc hB.out.size _).trans (e3.below (fun i hi e => by rcases e with e | e <;> omega) (by have := hB.out.size; simp; omega))
      case measure => simp [intOf]; omega
    · obtain rfl : k = len := by omega
      have HH : Hid (HIs (kd bx) ord w.heap.size w.heap.size lb wr row k) := by
        have := hH.out
        rw [List.take_of_length_le (by omega)] at this
        exact this
      clear hH
      have hz := HH.out.lts
      have hbz := hB.out.size
      obtain ⟨i0, hi, hz0, hz1, hz2⟩ := info_parts Tryz.infoL
      have HI := Lib.hid hi
      have HZ0 := Lib.hid hz0
      have HZ1 := Lib.hid hz1
      have HZ2 := Lib.hid hz2
      clear hi hz0 hz1 hz2
      gi_wp2_with (first
        | (gi_at_make; refine wpListIn_make_own _ rfl _ _ 23 rfl wr.heap.size 42 i0 (.agg zL) 5 Tryz.underlying23 HI.out HZ0.out HZ1.out .i64 .i64 k k rfl rfl rfl (by rw [HZ2.out]; omega) (by unfold maxLen; omega) (Nat.le_refl _) ?_; intro w2 hown2 hgrow2; have HO := Lib.hid (And.intro hown2 hgrow2); clear hown2 hgrow2)
        | (refine ⟨trivial, ?_⟩; gi_at_call 117; refine (callsIn_wide.2 (drain_any w.heap.size _)).mono ?_; rintro e w3 ⟨rfl, hw3⟩; refine Hid.out ?_))
      have bO : Boxed w3 w2.heap.size 23 (.slice (some ⟨wr.heap.size, 0, none⟩) 0 k) := by rw [← hw3]; exact heap_alloc (heap_new _ rfl) _
      have hx : w3.heap[w2.heap.size + 1]? = some (.cells #[.pointer (some ⟨w.heap.size, 0, none⟩)] 162 (0, 0)) := by rw [← hw3]; exact heap_new _ (by simp)
      have hz3 : w3.heap.size = w2.heap.size + 1 + 1 := by rw [← hw3]; simp
      have hz2 := HO.out.2.size
      have hB3 : Below wr.heap.size wr w3 := by rw [← hw3]; exact (((Below.refl wr.heap.size wr).grown HO.out.2 (Nat.le_refl _) (fun r e => by cases e)).alloc hz2 _).alloc (by simp; omega) _
      have hown3 : w3.ownsRow wr.heap.size 42 5 (.slice (some ⟨wr.heap.size, 0, none⟩) 0 k) 0 [] := by rw [← hw3]; exact (HO.out.1.alloc _).alloc _
      clear hw3 HO
      have HIS := Lib.hid (HH.out.below hB3)
      have HNM3 := Lib.hid (HNM.out.below (hB.out.trans (hB3.mono hbz)))
      have hSr : Hg.SrI (kd bx) 42 23 w wr.heap.size w2.heap.size [] w3 := ⟨⟨_, bO, hown3⟩, hB.out.trans (hB3.mono hbz)⟩
      clear hown3 bO hB3
      refine Lib.hid ?_
      gi_wp2_with fail
      refine wpIn_rangeFunc_turns rfl (by omega) (gf := 140) (lb := #[.pointer (some ⟨w2.heap.size + 1, 0, none⟩)]) rfl trivial (enters_of Tryz.func140 (by kernel_rfl) rfl)
        (drain_turns bx 2 (by omega) HIS.out (by omega) hx (by omega) (by omega) HNM3.out (by omega) (by omega)) (fun j e => by rcases e with e | e <;> omega) Hg.Keep4.trans
        (fun A l o o' hl ho hc => ⟨(grownBy_putObj' A l o').size, World.putObj_heap_other (by omega), World.putObj_heap_other (by omega), World.putObj_heap_other (by omega), World.putObj_heap_other (by omega)⟩)
        (fun xs A l o o' hS hl ho hc => ⟨hS.1, hS.2.put ho (by omega) (by omega) o'⟩)
        (fun xs A l o o' hS hl ho hc => by obtain ⟨j, e1, e2, e3, e4⟩ := hS; exact ⟨j, e1, e2, e3, e4.put ho (by omega) (by omega) o'⟩)
        (Below.refl _ _) (fun _ => rfl)
        (fun pre W => (w3.heap.size ≤ W.heap.size ∧ W.heap[w2.heap.size + 1]? = some (.cells #[.pointer (some ⟨w.heap.size, 0, none⟩)] 162 (0, 0))) ∧ Hg.SrI (kd bx) 42 23 w wr.heap.size w2.heap.size pre W)
        (fun _ _ _ => False)
        (OwnFrom.and (fun s A B row hs hg hr => ⟨Nat.le_trans hs.1 hg.size, heap_kept hs.2 hg (fun e => by obtain ⟨_, o, ho, hc⟩ := hr _ e.symm; rw [hs.2] at ho; cases ho; cases hc)⟩) (Hg.SrI.own (by omega)))
        (fun _ _ _ _ _ h _ _ => h)
        (fun s A B hs ht => ⟨⟨Nat.le_trans hs.1.1 ht.size, ht.old hs.1.2 (fun e => by rcases e with e | e <;> omega)⟩, hs.2.turned ht (by omega) (by omega) (by omega) (by omega) (Nat.le_refl _) hlb⟩)
        ⟨⟨Nat.le_refl _, hx⟩, hSr⟩
        (fun x a' W => ∃ Bx, w3.heap.size ≤ Bx ∧ Bx < W.heap.size ∧ W.heap[Bx]? = some (.cells #[.string x.name, .string x.frm, .string x.to_, .int .i64 x.delay, .int .i64 x.weight] 42 (0, 0)) ∧ a' = { tmps := #[.slice a k cap, .func (.func 74) #[] #[.pointer (some ⟨bx, 0, none⟩)], undef, undef, .slice none 0 0, .pointer (some ⟨w.heap.size, 0, none⟩), undef, u7, .pointer (some ⟨w2.heap.size, 0, none⟩), .pointer (some ⟨Bx, 0, none⟩), .func (.func 74) #[] #[.pointer (some ⟨bx, 0, none⟩)], .pointer (some ⟨w.heap.size, 0, none⟩), .slice a k cap, .int .i64 k, .int .i64 k, .bool false, u16, u17, u18, u19, u20, u21, .slice a k cap, .int .i64 k, .slice (some ⟨wr.heap.size, 0, none⟩) 0 k, .pointer (some ⟨w.heap.size, 0, none⟩), .func (.func 140) #[] #[.pointer (some ⟨w2.heap.size + 1, 0, none⟩)], .agg #[.string x.name, .string x.frm, .string x.to_, .int .i64 x.delay, .int .i64 x.weight], undef, undef, undef, undef, undef], defers := [] })
        (fun x a' A l o o' hA hl ho hc => by
          obtain ⟨Bx, e1, e2, e3, e4⟩ := hA
          refine ⟨Bx, e1, Nat.lt_of_lt_of_le e2 (grownBy_putObj' A l o').size, ?_, e4⟩
          refine (World.putObj_heap_other (fun e => ?_)).trans e3
          subst e
          rw [ho] at e3
          cases e3
          cases hc)
        ?assign ?body ?done ?stop
      case assign =>
        intro l pre x W J hi hK
        unfold eIt
        gi_wp2
        have hba := (Below.refl W.heap.size W).alloc (Nat.le_refl _) (Obj.cells #[.string x.name, .string x.frm, .string x.to_, .int .i64 x.delay, .int .i64 x.weight] 42)
        have hsz := hi.1.1
        exact hK _ _ ((KeepsOthers.alloc _ _).from _) ⟨by simp, hba.block _ (by omega), hba.block _ (by omega), hba.block _ (by omega), hba.block _ (by omega)⟩ ⟨⟨by simp; omega, heap_alloc hi.1.2 _⟩, hi.2.new _⟩ ⟨W.heap.size, hsz, by simp, heap_new _ rfl, rfl⟩
      case body =>
        rintro l pre x a' W ⟨⟨hsz, hX5⟩, hD⟩ ⟨Bx, hBx1, hBx2, hX, rfl⟩ hN
        obtain ⟨⟨v, c1, hg⟩, hF⟩ := hD
        obtain ⟨a6, cap6, rfl⟩ := Hg.ownsRow_slice' hg
        have k1 := c1.cell
        have k4 : W.cell? ⟨Bx, 0, none⟩ = some (.string x.name) := heap_cell hX rfl
        have k5 : W.cell? ⟨Bx, 1, none⟩ = some (.string x.frm) := heap_cell hX rfl
        have k6 : W.cell? ⟨Bx, 2, none⟩ = some (.string x.to_) := heap_cell hX rfl
        have k7 : W.cell? ⟨Bx, 3, none⟩ = some (.int .i64 x.delay) := heap_cell hX rfl
        have k8 : W.cell? ⟨Bx, 4, none⟩ = some (.int .i64 x.weight) := heap_cell hX rfl
        have HC := Lib.hid (And.intro c1 (And.intro hg (And.intro hF (And.intro hX hX5))))
        clear c1 hg hF hX hx hSr hX5
        gi_wp2_with (gi_at_builtin; refine wpListIn_append_own _ rfl _ _ 23 rfl wr.heap.size 42 i0 (.agg zL) 5 64 Tryz.underlying23 HI.out HZ0.out HZ1.out HZ2.out rfl (by decide) _ _ _ rfl (HC.out.2.1.alloc _) ⟨W.heap.size, 0, none⟩ 1 1 (encL x) rfl rfl (Hg.one_at (K := (kd bx)) x (heap_new _ rfl)) ((kd bx).one x) (by unfold maxLen; omega) (by omega) (by simp; omega) ?_; intro v' w5 hown hgrow _; obtain ⟨g', cap', rfl⟩ := ownsRow_succ hown; obtain ⟨hb1', hD1, hk1, hs1, hbl1⟩ := Hg.SrI.appended (K := (kd bx)) (x := x) (by decide) HC.out.1 HC.out.2.1 HC.out.2.2.1 (by omega) (by omega) hown hgrow; have hc1 := hb1'.cell; have hf1 := hb1'.frozen; have HD1 := Lib.hid hD1; have HX1 := Lib.hid (And.intro hk1 (And.intro hs1 hbl1)); clear hD1 hk1 hs1 hbl1 hown hgrow)
        have hptr := HX1.out.2.2 (w2.heap.size + 1) (by omega) (by omega) (.inr (fun cur e => by rw [HC.out.2.2.2.2] at e; simp at e))
        have hK3 : Hg.Keep4 w.heap.size lb (w2.heap.size + 1) bx W (w5.setCell ⟨w2.heap.size, 0, none⟩ (.slice (some ⟨g', 0, none⟩) (pre.length + 1) cap')) :=
          ⟨HX1.out.2.1, HX1.out.2.2 _ (by omega) (by omega) (.inl (by omega)), HX1.out.2.2 _ (by omega) (by omega) (.inl (by omega)), hptr, HX1.out.2.2 _ (by omega) (by omega) (.inl (by omega))⟩
        exact ⟨HX1.out.1.from _, hK3, ⟨Nat.le_trans hsz HX1.out.2.1, hptr.trans HC.out.2.2.2.2⟩, HD1.out⟩
      case done =>
        rintro D xs W hD ⟨rfl, hS⟩ ⟨⟨hsz, _⟩, hDI⟩ hK
        obtain ⟨⟨v, c1, hg⟩, hF⟩ := hDI
        obtain ⟨aq, gq, cq, rfl, hown⟩ := Hg.own_row (fit := fitL) hg (by rw [Hg.srt_length]; unfold maxLen; omega) (fun x hx => HIA.out.fits x (Hg.srt_mem hx))
        have k1 := c1.cell
        have HC := Lib.hid (And.intro hown hF)
        clear c1 hg hF hS hx hSr hown
        rw [Hg.srt_length] at *
        gi_wp2
        refine ⟨by simp, .inl ⟨_, _, rfl, run_takeDeferred hK, ?_⟩⟩
        refine ⟨.slice aq row.length cq, ?_, aq, gq, cq, ?_, ?_, ?_⟩
        · simp [results, Tryz.f73, go_sem]
          omega
        · rw [hrl]
        · refine (HC.out.1.mono (by omega)).turned (Turned.of_grown (grownBy_putObj' W D _)) (fun _ cur hc e => ?_)
          cases e
          rw [hc] at hK
          cases hK
        · exact HC.out.2.trans (belowK_b (w := w) (Nat.le_refl _) _ D _ _ (by omega) hK rfl rfl)
      case stop =>
        rintro D c pre W _ _ h _
        exact h.elim

theorem byName_any {w : World} {a : Option Addr} {b off len cap : Nat} {row : List LinkM} (h : RowsAt encL fitL 5 w.heap.size w a b off len row) (hs : len ≤ 100000) :
    Calls Tryz.prog 32 #[.slice a len cap, .func (.func 33) #[] #[]] w (CloneQ encL fitL 5 42 w len (Hg.srt ord row)) := by
  have HB := Lib.hid (below_one w (.cells #[.func (.func 33) #[] #[]] 67))
  have HS := Lib.hid (sort_any w.heap.size (cap := cap) (h.on HB.out) hs (heap_new (w := w) (.cells #[.func (.func 33) #[] #[]] 67) rfl) (by simp))
  clear h
  go_enter Tryz.func32, Tryz.ntmps32
  go_wp2_with (go_at_call 73; refine HS.out.mono ?_; rintro e w5 ⟨aq, gq, cq, rfl, ho, hb⟩; have HO := Lib.hid (And.intro ho hb); clear ho hb)
  go_ret
  exact ⟨aq, gq, cq, rfl, HO.out.1.mono HB.out.size, HB.out.trans (HO.out.2.mono HB.out.size)⟩

end Go.Proofs.YtjcmeacgfflfmaaGreat.HeL
