/- Contracts: section.readTag; section.read. -/
import Derived.Test.YtnkhpmpoemodiaaSeG
import Derived.Test.YtnkhpmpoemodiaaDe
import Derived.Deep.RegionLaw
import Derived.Deep.RegionHeld3
import Derived.Deep.QuietTactic
import Derived.Laws.CopyOwn
set_option linter.unusedVariables false
set_option linter.unusedSectionVars false
set_option linter.unusedSimpArgs false
namespace Go.Proofs.Ytnkhpmpoemodiaa.Se
open Go.RowKit Go.Shelf

/-- A byte, or none, is copied into a box of one byte; only the box is turned. -/
theorem step_byte_in {P : Program} {ops : Array Oper} {o : Oper} {a : Act} {w : World} {K : Act → World → Prop} {Q : Exit → Act → World → Prop} {E : Prop} {d s : Operand} {T e t : TypeId} {g cp sc : Nat} {sp : Option Addr} {xs : List Int}
    (hgd : o.guard = none) (ho : o.op = .call { callee := .builtin .copy, args := #[d, s], argTypes := #[T, T] }) (hu : P.underlying T = some (.slice e)) (hsz : (P.info? e).map (·.size) = some 1)
    (hd : a.eval d = .slice (some ⟨g, 0, none⟩) 1 cp) (hs : a.eval s = .slice sp xs.length sc) (hl : xs.length ≤ 1) (hg : w.heap[g]? = some (.cells #[.int .u8 0] t (0, 0)))
    (hx : 0 < xs.length → ∃ ad, sp = some ad ∧ w.cell? (ad.add 0) = some (.int .u8 (xs.getD 0 0)))
    (h : ∀ w', Hid (w'.heap[g]? = some (.cells #[.int .u8 (xs.getD 0 0)] t (0, 0))) → Hid (w.grownBy w' (some g)) → K (a.put o.dst (goInt xs.length)) w') :
    if Region.wanted o (yielded ops a.tmps) = true then Oper.wp P o a w K Q else E := by
  rw [if_pos (by simp [Region.wanted, hgd])]
  match xs, hl with
  | [], _ =>
    have hrun := run_copy_none (P := P) w T T o.type e (some ⟨g, 0, none⟩) sp 1 cp 0 sc hu hsz rfl
    simp only [List.length_nil] at hs
    unfold Oper.wp
    simp [execOp, ho, resolve, invoke, builtin, hd, hs, hrun, Result.andThen]
    exact h w (Lib.hid hg) (Lib.hid (grown_refl _ _))
  | [x], _ =>
    obtain ⟨ad, rfl, hc⟩ := hx (by simp)
    have hrun := run_copy_row (P := P) w T T o.type e g 0 1 cp ad 1 sc #[.int .u8 0] t [.int .u8 x] hu hsz hg rfl (fun j v hj => by
      match j, hj with
      | 0, hj => simp at hj; subst hj; exact hc) (by simp) (by intro v hv; simp at hv; subst hv; rfl)
    simp only [List.length_singleton] at hs
    unfold Oper.wp
    simp [execOp, ho, resolve, invoke, builtin, hd, hs, hrun, Result.andThen]
    exact h _ (Lib.hid (by simpa using setRow_heap w g _ #[.int .u8 x] t _ hg)) (Lib.hid ⟨rfl, rfl, rfl, by simp [World.setRow], fun k hk hne => setRow_other w g k _ (by simpa using hne)⟩)
set_option maxRecDepth 100000 in
set_option maxHeartbeats 2000000 in
theorem readTag_any (w : World) (R : Nat) (zs : List Int) (s : RS) (hz : zs.length ≤ 60000) (h : RIs w R zs s) :
    Calls Try.prog 92 #[.pointer (some ⟨R, 0, none⟩)] w (IntPost .u8 w R zs (rdTag zs s).1 (rdTag zs s).2) := by
  have hRw : R < w.heap.size := by obtain ⟨a, cap, b, off, h⟩ := h; exact heap_lt h.box
  have hl1 : (rtake zs 0 1 s).2.length ≤ 1 := by
    unfold rtake
    split
    · split
      · simp
      · simp only [List.length_take]; omega
    · simp
  have HA : Hid (∀ W, Below w.heap.size w W → Calls Try.prog 69 #[.pointer (some ⟨R, 0, none⟩), .int .i64 1] W (RawPost W R zs (rtake zs 0 1 s))) := Lib.hid (fun W hb => rraw_any W R zs s 1 1 (by decide) (by decide) (by decide) hz (h.stay hb))
  have HD : Hid (rdTag zs s = ((rtake zs 0 1 s).1, (rtake zs 0 1 s).2.getD 0 0)) := Lib.hid rfl
  have hne : 176 ≠ 5 := by decide
  have HNE := Lib.hid hne
  rw [HD.out]
  clear h hne HD
  generalize rtake zs 0 1 s = r at *
  obtain ⟨s1, xs⟩ := r
  simp only at hl1 ⊢
  have hb0 : Below w.heap.size w (w.alloc (.cells #[.int .u8 0] 176)) := (Below.refl _ _).alloc (Nat.le_refl _) _
  have HB0 := Lib.hid hb0
  have HBX : Hid ((w.alloc (.cells #[.int .u8 0] 176)).heap[w.heap.size]? = some (.cells #[.int .u8 0] 176 (0, 0))) := Lib.hid (heap_new _ rfl)
  clear hb0
  obtain ⟨y, hy⟩ : ∃ y, xs.getD 0 0 = y := ⟨_, rfl⟩
  have HY := Lib.hid hy
  rw [hy]
  clear hy
  go_enter Try.func92, Try.ntmps92
  go_wp2_with fail
  go_region_law (first
    | (go_simp; go_at_call 69; refine (HA.out _ (by first | exact HB0.out | exact HB0.out.drew)).mono ?_; rintro e w5 ⟨a5, b5, cap5, rfl, hc5, hnil5, hI5, hb5, hr5, hg5, -⟩; have HJ : Hid (IntsAt .u8 w5.heap.size w5 a5 b5 0 xs.length xs ∧ RIs w5 R zs s1 ∧ w5.heap[w.heap.size]? = some (.cells #[.int .u8 0] 176 (0, 0)) ∧ w.grownBy w5 (some R)) := Lib.hid ⟨hI5, hr5, (hg5.block _ (by simp [World.drew]) (by simp; omega)).trans HBX.out, (grown_below (HB0.out.drew) _).trans hg5⟩; clear hc5 hnil5 hI5 hb5 hr5 hg5)
    | (refine step_byte_in rfl rfl Try.underlying45 Try.sizeU8 (g := w.heap.size) (xs := xs) (t := 176) (e := 5) (T := 45) (d := .tmp 4) (s := .tmp 6) rfl rfl hl1 HJ.out.2.2.1 (fun hp => ⟨_, HJ.out.1.addr.resolve_left (by omega), by rw [addr_add]; exact HJ.out.1.cell 0 hp⟩) ?_; intro w6 hx6 hg6; have HQ : Hid (RIs w6 R zs s1 ∧ w.grownBy w6 (some R)) := Lib.hid ⟨HJ.out.2.1.apart HJ.out.2.2.1 HNE.out (by omega) hg6.out, grown_new HJ.out.2.2.2 hg6.out (Nat.le_refl _)⟩; rw [HY.out] at hx6; have c6 := heap_cell hx6.out (i := 0) rfl; have hlt6 := heap_lt hx6.out; clear hx6 hg6))
  all_goals
    go_wp2
    go_ret
    exact ⟨rfl, HQ.out.1, HQ.out.2⟩
end Go.Proofs.Ytnkhpmpoemodiaa.Se
