/- General: a region that draws its order, inside a round of a loop over a function: a load whose cell only a later store turns may be taken first. No program in this text. -/
import Derived.Test.YtnkhpmpoemodiaaAr
import Derived.OrdersHeld
import Derived.Deep.RegionLaw
set_option linter.unusedVariables false
set_option linter.unusedSectionVars false
namespace Go.Proofs.Ytnkhpmpoemodiaa
open Go.RowKit

section
variable {F : Fence} {n : Nat} {P : Program} {ops : Array Oper} {Q : Exit → Act → World → Prop} {md : Region.Mode} {S : World → Prop} {T : Nat → Bool}
/-- It yields v in every world of S, and calls nothing. -/
def CalmIf (P : Program) (ops : Array Oper) (S : World → Prop) (o : Oper) (v : Value) (a : Act) : Prop := YieldsIf P ops S o v a ∧ ∀ w, o.about P w a.eval = none
/-- What another operation leaves, with v laid before it or behind it. -/
theorem opIn_shift {j : Nat} {oi oj : Oper} {v : Value} (hro : F.round = none) (hj : ops[j]? = some oj) (hap : oi.apart ops oj = true)
    (hsi : ∀ cs b, oi.op ≠ .select cs b) (hsj : ∀ cs b, oj.op ≠ .select cs b) (hQ : ∀ c a w, Q (.panic c) (a.put oi.dst v) w → Q (.panic c) a w)
    {K : Act → World → Prop} {a : Act} {w : World} (hy : CalmIf P ops S oi v a) (h : wpOpIn F n P ops Q j K (a.put oi.dst v) w) :
    wpOpIn F n P ops Q j (fun b x => CalmIf P ops S oi v b ∧ K (b.put oi.dst v) x) a w := by
  obtain ⟨e1, e2, e3⟩ := Oper.apart_spec hap
  have hput : ∀ (c : Act) u, CalmIf P ops S oi v c → CalmIf P ops S oi v (c.put oj.dst u) := fun c u hc =>
    ⟨hc.1.of_same (execOp_put oi hsi c oj.dst u e3) (wanted_put oi c oj.dst u e3), fun x => by rw [about_put oi x c oj.dst u e3]; exact hc.2 x⟩
  have hval : ∀ (c : Act) u x, CalmIf P ops S oi v c → K ((c.put oi.dst v).put oj.dst u) x → CalmIf P ops S oi v (c.put oj.dst u) ∧ K ((c.put oj.dst u).put oi.dst v) x := fun c u x hc hk =>
    ⟨hput c u hc, by rw [← Act.put_comm c v u e2]; exact hk⟩
  unfold wpOpIn at h ⊢
  simp only [hj] at h ⊢
  rw [wanted_put oj a oi.dst v e1] at h
  by_cases hw : Region.wanted oj (yielded ops a.tmps) = true
  · rw [if_pos hw] at h ⊢
    unfold Oper.wpIn at h ⊢
    rw [about_put oj w a oi.dst v e1, hro, Oper.semAt_none, execOp_put oj hsj a oi.dst v e1] at h
    rw [hro, Oper.semAt_none]
    refine ⟨h.1, ?_⟩
    replace h := h.2
    generalize (execOp a.eval oj).run P w = r at h ⊢
    match r, h with
    | .ok (.value u) x, h => exact hval a u x hy h
    | .ok .skip x, h => exact hval a _ x hy h
    | .ok (.defer d) x, h =>
      refine hval { a with defers := d :: a.defers } undef x ⟨hy.1.of_same rfl rfl, hy.2⟩ ?_
      rw [← Act.put_defers]
      exact h
    | .ok (.enter f args) x, h =>
      refine ⟨h.1, CallsIn.mono h.2 fun e y he => ?_⟩
      match e, he with
      | .returned u, he => exact hval a u y hy he
      | .panicked c, he => exact hQ _ _ _ he
      | .outgrown, he => exact he
    | .ok (.row nm args) x, h => exact ⟨h.1, RowsIn.mono h.2 fun u y he => hval a u y hy he⟩
    | .ok (.round l f tmps assign body) x, h =>
      refine ⟨h.1, RoundIn.mono h.2 fun e y he => ?_⟩
      match e, he with
      | .returned u, he => exact hval a u y hy he
      | .panicked c, he => exact hQ _ _ _ he
      | .outgrown, he => exact he
    | .halt (.panic u) x, h => exact hQ _ _ _ h
  · rw [if_neg hw] at h ⊢
    rw [about_put oj w a oi.dst v e1] at h
    exact ⟨h.1, hval a _ w hy h.2⟩
/-- Whichever order is drawn; behind the operations of T the world is one of S. -/
def AnyT (F : Fence) (n : Nat) (P : Program) (md : Region.Mode) (ops : Array Oper) (Q : Exit → Act → World → Prop) (S : World → Prop) (T : Nat → Bool) : Nat → Array Bool → Act → World → Prop
  | 0, L, a, w => Region.ready md ops L = [] ∧ Q .normal a w
  | m + 1, L, a, w => (Region.ready md ops L = [] → Q .normal a w) ∧ ∀ i ∈ Region.ready md ops L, wpOpIn F n P ops Q i (fun b x => (T i = true → S x) ∧ AnyT F n P md ops Q S T m (L.setIfInBounds i true) b x) a w
theorem AnyT.any : ∀ (m : Nat) (L : Array Bool) (a : Act) (w : World), AnyT F n P md ops Q S T m L a w → wpAnyIn F n P md ops Q m L a w
  | 0, _, _, _, h => h
  | m + 1, _, _, _, h => ⟨h.1, fun i hi => wpOpIn_mono (fun b x hb => AnyT.any m _ b x hb.2) (h.2 i hi)⟩
/-- Does j wait for i? -/
def waitsB (md : Region.Mode) (ops : Array Oper) (i : Nat) : Nat → Nat → Bool
  | 0, _ => false
  | d + 1, j => match ops[j]? with
    | some o => o.after.toList.any fun e => Region.binds md e && (e.on == i || waitsB md ops i d e.on)
    | none => false
/-- What is listed has all listed that it waits for. -/
def ClosedL (md : Region.Mode) (ops : Array Oper) (L : Array Bool) : Prop := ∀ j oj, ops[j]? = some oj → L.getD j false = true → ∀ e ∈ oj.after, Region.binds md e = true → L.getD e.on false = true
def closedB (md : Region.Mode) (ops : Array Oper) (L : Array Bool) : Bool :=
  (List.range ops.size).all fun j => !(L.getD j false) || (match ops[j]? with | some o => o.after.toList.all fun e => !(Region.binds md e) || L.getD e.on false | none => true)
theorem closedB_spec {L : Array Bool} (h : closedB md ops L = true) : ClosedL md ops L := fun j oj hj hl e he hb => by
  have h1 := List.all_eq_true.1 h j (List.mem_range.2 (Array.getElem?_eq_some_iff.1 hj).1)
  simp only [hj, hl, Bool.not_true, Bool.false_or] at h1
  have h2 := List.all_eq_true.1 h1 e (by simpa using he)
  simpa [hb] using h2
theorem waits_listed {L : Array Bool} (hC : ClosedL md ops L) {i : Nat} : ∀ (d j : Nat) (oj : Oper), ops[j]? = some oj → (∀ e ∈ oj.after, Region.binds md e = true → L.getD e.on false = true) → waitsB md ops i d j = true → L.getD i false = true
  | 0, _, _, _, _, h => by cases h
  | d + 1, j, oj, hj, hall, h => by
    simp only [waitsB, hj] at h
    obtain ⟨e, he, hb⟩ := List.any_eq_true.1 h
    simp only [Bool.and_eq_true, Bool.or_eq_true, beq_iff_eq] at hb
    have hl := hall e (by simpa using he) hb.1
    rcases hb.2 with rfl | hw
    · exact hl
    · cases hk : ops[e.on]? with
      | none => cases d <;> simp [waitsB, hk] at hw
      | some ok => exact waits_listed hC d e.on ok hk (hC e.on ok hk hl) hw
/-- Who may come before i keeps S. -/
def keepsB (md : Region.Mode) (ops : Array Oper) (T : Nat → Bool) (i : Nat) : Bool := (List.range ops.size).all fun j => j == i || T j || waitsB md ops i ops.size j
theorem keepsB_spec {i : Nat} (h : keepsB md ops T i = true) {L : Array Bool} (hC : ClosedL md ops L) (hi : L.getD i true = false) {j : Nat} {oj : Oper} (hj : ops[j]? = some oj) (hne : j ≠ i) (hall : ∀ e ∈ oj.after, Region.binds md e = true → L.getD e.on false = true) : T j = true := by
  have h1 := List.all_eq_true.1 h j (List.mem_range.2 (Array.getElem?_eq_some_iff.1 hj).1)
  simp only [Bool.or_eq_true, beq_iff_eq] at h1
  rcases h1 with (h1 | h1) | h1
  · exact absurd h1 hne
  · exact h1
  · have h2 := waits_listed hC _ j oj hj hall h1
    cases h3 : L[i]? with
    | none => simp [Array.getD_eq_getD_getElem?, h3] at h2
    | some q => simp [Array.getD_eq_getD_getElem?, h3] at h2 hi; rw [h2] at hi; cases hi
theorem ClosedL.set {L : Array Bool} (hC : ClosedL md ops L) {j : Nat} {oj : Oper} (hj : ops[j]? = some oj) (hall : ∀ e ∈ oj.after, Region.binds md e = true → L.getD e.on false = true) : ClosedL md ops (L.setIfInBounds j true) := fun k ok hk hl e he hb => by
  by_cases hjk : j = k
  · subst hjk
    rw [hj] at hk; cases hk
    exact getD_set_true (hall e he hb)
  · rw [getD_set_ne false hjk] at hl
    exact getD_set_true (hC k ok hk hl e he hb)
theorem AnyT.first {i : Nat} {oi : Oper} {v : Value} (hro : F.round = none) (hi : ops[i]? = some oi) (hs : Region.noSelect ops = true) (hk : keepsB md ops T i = true)
    (hQ : ∀ c a w, Q (.panic c) (a.put oi.dst v) w → Q (.panic c) a w) : ∀ (m : Nat) (L : Array Bool) (a : Act) (w : World),
      ClosedL md ops L → (∀ j oj, ops[j]? = some oj → j ≠ i → L.getD j true = false → (∀ e ∈ oj.after, Region.binds md e = true → e.on ≠ i) → oi.apart ops oj = true) →
      i ∈ Region.ready md ops L → CalmIf P ops S oi v a → S w → AnyT F n P md ops Q S T m (L.setIfInBounds i true) (a.put oi.dst v) w → AnyT F n P md ops Q S T (m + 1) L a w := by
  have now : ∀ (a : Act) (w : World) (K : Act → World → Prop), CalmIf P ops S oi v a → S w → K (a.put oi.dst v) w → wpOpIn F n P ops Q i K a w := fun a w K hy hS hK => by
    unfold wpOpIn
    simp only [hi]
    have hab : ∀ f, oi.about P w a.eval = some f → F.fn f := fun f hf => by rw [hy.2 w] at hf; cases hf
    rcases hy.1 with ⟨hw, hv⟩ | ⟨hw, rfl⟩
    · rw [if_pos hw]
      unfold Oper.wpIn
      rw [hro, Oper.semAt_none, hv w hS]
      exact ⟨hab, hK⟩
    · rw [if_neg (by rw [hw]; decide)]
      exact ⟨hab, hK⟩
  intro m
  induction m with
  | zero =>
    intro L a w _ _ hr hy hS H
    refine ⟨fun h => (by rw [h] at hr; cases hr), fun j hj => ?_⟩
    by_cases hji : j = i
    · subst hji; exact now a w _ hy hS ⟨fun _ => hS, H⟩
    · have := ready_mono hj hji
      rw [H.1] at this
      cases this
  | succ m ih =>
    intro L a w hC hfree hr hy hS H
    refine ⟨fun h => (by rw [h] at hr; cases hr), fun j hj => ?_⟩
    by_cases hji : j = i
    · subst hji; exact now a w _ hy hS ⟨fun _ => hS, H⟩
    · obtain ⟨hju, oj, hoj, hall⟩ := mem_ready.1 hj
      have hiu := (mem_ready.1 hr).1
      have hnot : ∀ e ∈ oj.after, Region.binds md e = true → e.on ≠ i := fun e he hb heq => by
        have h1 := hall e he hb
        rw [heq] at h1
        cases h3 : L[i]? with
        | none => simp [Array.getD_eq_getD_getElem?, h3] at h1
        | some q => simp [Array.getD_eq_getD_getElem?, h3] at h1 hiu; rw [h1] at hiu; cases hiu
      refine wpOpIn_mono (fun b x hb => ?_) (opIn_shift hro hoj (hfree j oj hoj hji hju hnot) (fun cs b => Region.noSelect_spec hs i oi cs b hi) (fun cs b => Region.noSelect_spec hs j oj cs b hoj) hQ hy (H.2 j (ready_mono hj hji)))
      have hSx := hb.2.1 (keepsB_spec hk hC hiu hoj hji hall)
      refine ⟨fun _ => hSx, ih (L.setIfInBounds j true) b x (hC.set hoj hall) (fun k ok hk' hki hun hno => ?_) (ready_mono hr (Ne.symm hji)) hb.1 hSx ?_⟩
      · by_cases hjk : j = k
        · subst hjk; exact hfree j ok hk' hki hju hno
        · exact hfree k ok hk' hki (by rwa [getD_set_ne true hjk] at hun) hno
      · rw [Array.setIfInBounds_comm _ _ hji]
        exact hb.2.2
theorem AnyT.take {i : Nat} {oi : Oper} {v : Value} {m : Nat} {L : Array Bool} {a : Act} {w : World} (hro : F.round = none) (hi : ops[i]? = some oi) (hs : Region.noSelect ops = true) (hk : keepsB md ops T i = true) (hC : closedB md ops L = true)
    (hf : Region.free md ops L i = true) (hr : (Region.ready md ops L).contains i = true) (hQ : ∀ c a w, Q (.panic c) (a.put oi.dst v) w → Q (.panic c) a w) (hw : Region.wanted oi (yielded ops a.tmps) = true)
    (hy : ∀ x, S x → (execOp a.eval oi).run P x = .ok (.value v) x) (hab : ∀ x, oi.about P x a.eval = none) (hS : S w)
    (h : AnyT F n P md ops Q S T m (L.setIfInBounds i true) (a.put oi.dst v) w) : AnyT F n P md ops Q S T (m + 1) L a w :=
  AnyT.first hro hi hs hk hQ m L a w (closedB_spec hC) (Region.free_spec hi hf) (by simpa using hr) ⟨.inl ⟨hw, hy⟩, hab⟩ hS h
/-- One after another of those that may come. -/
def ReadyT (F : Fence) (n : Nat) (P : Program) (md : Region.Mode) (ops : Array Oper) (Q : Exit → Act → World → Prop) (S : World → Prop) (T : Nat → Bool) (m : Nat) (L : Array Bool) (a : Act) (w : World) (rs : List Nat) : Prop :=
  ∀ i ∈ rs, wpOpIn F n P ops Q i (fun b x => (T i = true → S x) ∧ AnyT F n P md ops Q S T m (L.setIfInBounds i true) b x) a w
theorem AnyT.ready {rs : List Nat} {m : Nat} {L : Array Bool} {a : Act} {w : World} (hr : Region.ready md ops L = rs) (hne : rs ≠ []) (h : ReadyT F n P md ops Q S T m L a w rs) : AnyT F n P md ops Q S T (m + 1) L a w :=
  ⟨fun h0 => absurd (hr ▸ h0) hne, hr ▸ h⟩
theorem ReadyT.nil {m : Nat} {L : Array Bool} {a : Act} {w : World} : ReadyT F n P md ops Q S T m L a w [] := fun _ h => by cases h
theorem ReadyT.cons {m : Nat} {L : Array Bool} {a : Act} {w : World} {i : Nat} {o : Oper} {rs : List Nat} (ho : ops[i]? = some o)
    (h : ∀ K : Act → World → Prop, (∀ b x, (T i = true → S x) → AnyT F n P md ops Q S T m (L.setIfInBounds i true) b x → K b x) → if Region.wanted o (yielded ops a.tmps) = true then Oper.wpIn F n P o a w K Q else (∀ f, o.about P w a.eval = some f → F.fn f) ∧ K (a.put o.dst undef) w)
    (hs : ReadyT F n P md ops Q S T m L a w rs) : ReadyT F n P md ops Q S T m L a w (i :: rs) := fun j hj => by
  rcases List.mem_cons.1 hj with rfl | hj
  · exact wpOpIn_step ho (fun K' hK => h K' (fun b x h1 h2 => hK b x ⟨h1, h2⟩))
  · exact hs j hj
theorem AnyT.done {L : Array Bool} {a : Act} {w : World} (hr : Region.ready md ops L = []) (h : Q .normal a w) : ∀ m, AnyT F n P md ops Q S T m L a w
  | 0 => ⟨hr, h⟩
  | _ + 1 => ⟨fun _ => h, by rw [hr]; simp⟩
theorem region_round_T {l id : Nat} {os : List Oper} {a : Act} {w : World} (S : World → Prop) (T : Nat → Bool) (hro : F.round = none) (hm : P.follows .mixedOrders = true) (hd : plainOps os = true)
    (h : AnyT F n P .any os.toArray Q S T os.toArray.size (Array.replicate os.toArray.size false) a w.drew) : (Code.region id os.toArray true).wpIn (F.inRound l) n P Q a w :=
  region_round hro hm hd (AnyT.any _ _ _ _ h)
theorem region_T {id : Nat} {a : Act} {w : World} (S : World → Prop) (T : Nat → Bool) (hro : F.round = none) (hm : P.follows .mixedOrders = true)
    (h : AnyT F n P .any ops Q S T ops.size (Array.replicate ops.size false) a w.drew) : (Code.region id ops true).wpIn F n P Q a w :=
  wpIn_region_any hm (AnyT.any _ _ _ _ h)
/-- Where the post of a panic hangs on the frame: the region must be shown not to panic. -/
def NoPan (Q : Exit → Act → World → Prop) : Exit → Act → World → Prop
  | .panic _, _, _ => False
  | e, a, w => Q e a w
theorem noPan_normal {a : Act} {w : World} (h : Q .normal a w) : NoPan Q .normal a w := h
theorem region_T_calm {id : Nat} {a : Act} {w : World} (S : World → Prop) (T : Nat → Bool) (hro : F.round = none) (hm : P.follows .mixedOrders = true)
    (h : AnyT F n P .any ops (NoPan Q) S T ops.size (Array.replicate ops.size false) a w.drew) : (Code.region id ops true).wpIn F n P Q a w :=
  wpIn_mono (wpIn_region_any hm (AnyT.any _ _ _ _ h)) (fun e a w h => by cases e <;> first | exact h | exact h.elim)
end
end Go.Proofs.Ytnkhpmpoemodiaa
