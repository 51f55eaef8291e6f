/- The iterator over a tree. -/
import Derived.Test.YtjcmeacgfflfmaaGreatGj
import Derived.Test.YtjcmeacgfflfmaaGreatCol
import Derived.Sort.LoopGhostIn
import Derived.Sort.BigQuietIn
import Derived.RangeFuncNested
import Derived.RangeFuncBound
import Derived.RangeFuncCalls
import Derived.RangeFuncLeaves
import Derived.RangeFuncBox
import Derived.Shelf.Abstract
import Derived.Shelf.RegionOpen
import Derived.OwnWalkIn
import Derived.TacticsInMore
import Derived.LoopNIn
import Derived.LoopIn
import Derived.Maps.AppendAt
set_option linter.unusedVariables false
set_option linter.unusedSectionVars false
set_option linter.unusedSimpArgs false
namespace Go.Proofs.YtjcmeacgfflfmaaGreat
open Go.RowKit Go.Shelf Rk

attribute [local go_sem] Oper.semAt_some

theorem room_of_none {F : Fence} (hd : F.depth = none) (k : Nat) : F.room k := fun d h => by rw [hd] at h; cases h
theorem RoundIn.anyDepth {F : Fence} (hd : F.depth = none) {m m' : Nat} {P : Program} {l : Nat} {f : FuncId} {tmps : Array Value} {assign body : Code} {w : World} {R : Ending → World → Prop}
    (h : RoundIn F m P l f tmps assign body w R) : RoundIn F m' P l f tmps assign body w R := ⟨h.1, fun c cs _ => h.2 c cs (room_of_none hd _)⟩
theorem YieldAt.anyDepth {F : Fence} (hd : F.depth = none) {m : Nat} (m' : Nat) {P : Program} {l : Nat} {args : Array Value} {W : World} {R : Ending → World → Prop} (h : YieldAt F m P l args W R) : YieldAt F m' P l args W R := by
  obtain ⟨fn, tmps, assign, body, hy, hR⟩ := h
  exact ⟨fn, tmps, assign, body, hy, RoundIn.anyDepth hd hR⟩
theorem IsT.lows {n₀ : Nat} {S : Nat → Prop} {A B : World} (h : Below n₀ A B) : ∀ {p : Option Addr} {t : T Int Int}, IsT (fun c => S c ∧ c < n₀) A p t → IsT (fun c => S c ∧ c < n₀) B p t
  | _, .nil, ht => ht
  | _, .node _ _ _ _, ⟨b, pl, pr, e, hs, hr, h1, h2⟩ => ⟨b, pl, pr, e, hs, heap_below hr h hs.2, h1.lows h, h2.lows h⟩
theorem IsT.low {n₀ : Nat} {A B : World} (h : Below n₀ A B) : ∀ {p : Option Addr} {t : T Int Int}, IsT (fun c => c < n₀) A p t → IsT (fun c => c < n₀) B p t
  | _, .nil, ht => ht
  | _, .node _ _ _ _, ⟨b, pl, pr, e, hs, hr, h1, h2⟩ => ⟨b, pl, pr, e, hs, heap_below hr h hs, h1.low h, h2.low h⟩

theorem pre_two {α : Type} {A B C R N : List α} {x : α} (h : A ++ (B ++ (C ++ x :: R)) <+: N) : (A ++ B) ++ C <+: N ∧ ((A ++ B) ++ C) ++ [x] <+: N := by
  obtain ⟨t, ht⟩ := h
  exact ⟨⟨x :: R ++ t, by rw [← ht]; simp⟩, ⟨R ++ t, by rw [← ht]; simp⟩⟩
/-- What each owes a tree: all but the first ones come, in order; or a round has said 'no more'. -/
def EachAt (l n₀ : Nat) (N : List (Int × Int)) (M : Nat) (J Jx : List (Int × Int) → World → Prop) : Prop := ∀ (n : Nat) (p : Option Addr) (t : T Int Int) (s : Nat) (pre : List (Int × Int)) (W : World), t.count < M → t.count ≤ 900000 → s ≤ 900000 → IsT (fun c => c < n₀) W p t → J pre W → pre ++ t.list.drop s <+: N →
  CallsIn Fence.wide n Tryz.prog 155 #[.pointer p, .int .i64 (s : Int), .func (.yield l) #[] #[]] W fun e W' =>
    (e = .returned (.bool true) ∧ J (pre ++ t.list.drop s) W' ∧ Below n₀ W W') ∨ (e = .returned (.bool false) ∧ ∃ q, q <+: t.list.drop s ∧ Jx (pre ++ q) W')

/-- A round's answer, as one. -/
theorem YieldAt.bool {n l n₀ : Nat} {args : Array Value} {J Jx : World → Prop} {W : World} (h : YieldAt Fence.wide n Tryz.prog l args W fun e W' => (e = .returned (.bool true) ∧ J W' ∧ Below n₀ W W') ∨ (e = .returned (.bool false) ∧ Jx W')) :
    YieldAt Fence.wide n Tryz.prog l args W fun e W' => ∃ bv : Bool, e = .returned (.bool bv) ∧ Hid ((bv = true ∧ J W' ∧ Below n₀ W W') ∨ (bv = false ∧ Jx W')) :=
  YieldAt.mono h fun e W' h => by
    rcases h with ⟨rfl, h⟩ | ⟨rfl, h⟩
    · exact ⟨true, rfl, Lib.hid (.inl ⟨rfl, h⟩)⟩
    · exact ⟨false, rfl, Lib.hid (.inr ⟨rfl, h⟩)⟩

/-- A region that ends as it should. -/
theorem wpIn_calm {F : Fence} {n : Nat} {P : Program} {c : Code} {K : Act → World → Prop} {Q : Exit → Act → World → Prop} {a : Act} {w : World} (h : c.wpIn F n P (fun e a w => Exit.casesOn (motive := fun _ => Prop) e (K a w) (fun _ => False) (fun _ => False) False (fun _ => False) False) a w) : c.wpIn F n P (Exit.then K Q) a w :=
  wpIn_mono h fun e a w h => by cases e <;> first | exact h | exact h.elim

def EachLoop (l n₀ : Nat) (t : T Int Int) (s : Nat) (pre : List (Int × Int)) (J : List (Int × Int) → World → Prop) (W : World) (q : Option Addr) (u : T Int Int) (s' : Nat) (wr : World) : Prop :=
  ∃ done, IsT (fun c => c < n₀) wr q u ∧ J (pre ++ done) wr ∧ t.list.drop s = done ++ u.list.drop s' ∧ Below n₀ W wr

set_option maxRecDepth 100000 in
set_option maxHeartbeats 1000000 in
theorem each_step (l n₀ : Nat) (N : List (Int × Int)) (M : Nat) (J Jx : List (Int × Int) → World → Prop) (hJd : ∀ s A, J s A → J s A.drew)
    (hY : ∀ m pre x W, J pre W → pre ++ [x] <+: N → YieldAt Fence.wide m Tryz.prog l #[.int .i64 x.1, .int .i64 x.2] W fun e W' =>
      (e = .returned (.bool true) ∧ J (pre ++ [x]) W' ∧ Below n₀ W W') ∨ (e = .returned (.bool false) ∧ Jx (pre ++ [x]) W'))
    (hE : EachAt l n₀ N M J Jx) : EachAt l n₀ N (M + 1) J Jx := by
  intro n p t s pre W hM hM9 hs hT hJ hN
  have hmx : Tryz.prog.follows .mixedOrders = true := by kernel_rfl
  have HE := Lib.hid hE
  have HY := Lib.hid hY
  have HJd := Lib.hid hJd
  have HT := Lib.hid hT
  have HJ := Lib.hid hJ
  have HN := Lib.hid hN
  clear hE hY hJd hT hJ hN
  refine callsIn_of_wp Tryz.func155 rfl trivial ?_ rfl
  simp only [Tryz.ntmps155, List.size_toArray, List.length_cons, List.length_nil, Nat.reduceAdd, Nat.reduceSub, Array.replicate_succ, Array.replicate_zero, List.push_toArray, List.append_toArray, List.nil_append, List.cons_append]
  gi_wp2
  gi_loopg [0, 1] t.count (fun g nv sk wr => ∃ (q : Option Addr) (u : T Int Int) (s' : Nat), nv = .pointer q ∧ sk = .int .i64 (s' : Int) ∧ s' ≤ 900000 ∧ Hid (g = u.count) ∧ Hid (u.count < M + 1 ∧ u.count ≤ 900000) ∧ Hid (EachLoop l n₀ t s pre J W q u s' wr))
  case atStart => exact ⟨p, t, s, rfl, rfl, hs, Lib.hid rfl, Lib.hid ⟨hM, hM9⟩, Lib.hid ⟨[], HT.out, by rw [List.append_nil]; exact HJ.out, rfl, Below.refl _ _⟩⟩
  case round =>
    obtain ⟨q, u, s', rfl, rfl, hs', hg, hM', hL⟩ := hrel
    obtain ⟨done, hT', hJ', hD, hB⟩ := hL.out
    cases u with
    | nil =>
      obtain rfl : q = none := hT'
      have HEND := Lib.hid (show J (pre ++ t.list.drop s) wr ∧ Below n₀ W wr from ⟨by rw [hD]; simpa [T.list] using hJ', hB⟩)
      clear hJ' hD hB hL
      gi_wp2
      go_ret
      exact .inl ⟨rfl, HEND.out⟩
    | node l' k v r =>
      obtain ⟨b, pl, pr, rfl, hb, hr, hl, hrr⟩ := hT'
      obtain ⟨a, ha⟩ : ∃ a : Nat, l'.count = a := ⟨_, rfl⟩
      have hla : l'.list.length = a := by rw [T.list_length]; exact ha
      have hcn := hM'.out
      simp only [T.count] at hcn
      rw [ha] at hcn
      have ha9 : a ≤ 900000 := by omega
      have hraw := hr
      obtain ⟨z, hz⟩ : ∃ z : Int, ((l'.count + 1 + r.count : Nat) : Int) = z := ⟨_, rfl⟩
      rw [hz] at hraw
      obtain ⟨c0, c1, c2, c3, c4⟩ := hraw.cells
      have HCn := Lib.hid (count_any hl)
      rw [ha] at HCn
      have HRAW := Lib.hid hraw
      have HL := Lib.hid hl
      have HRR := Lib.hid hrr
      have HJ' := Lib.hid hJ'
      have HD := Lib.hid hD
      have HB := Lib.hid hB
      have HLA := Lib.hid hla
      have HCN := Lib.hid hcn
      have HBN := Lib.hid hb
      have HA := Lib.hid ha
      clear hr hraw hl hrr hJ' hD hB hla hcn hb ha hz hL
      by_cases hlt : s' < a
      · have hd : decide ((s' : Int) < (a : Int)) = true := by simp; omega
        have hd1 : decide (s' < a) = true := by simp; omega
        have hd2 : decide ((s' : Int) ≤ (a : Int)) = true := by simp; omega
        have hd3 : decide (s' ≤ a) = true := by simp; omega
        have hdr : (T.node l' k v r).list.drop s' = l'.list.drop s' ++ (k, v) :: r.list := by
          rw [T.list, List.drop_append_of_le_length (by rw [HLA.out]; omega)]
        have hlen := HN.out
        rw [HD.out, hdr] at hlen
        obtain ⟨hlen1, hlen2⟩ := pre_two hlen
        have HX := Lib.hid (HE.out (n - 1) pl l' s' (pre ++ done) wr (by rw [HA.out]; have := HCN.out; omega) (by rw [HA.out]; omega) hs' HL.out HJ'.out hlen1)
        have HDR := Lib.hid hdr
        have HLEN := Lib.hid hlen2
        clear hdr hlen hlen1 hlen2
        gi_wp2_with (first
          | (refine ⟨trivial, fun h => (by cases h), ?_⟩; gi_at_call 148; refine (callsIn_wide.2 HCn.out).mono ?_; rintro e w' ⟨rfl, rfl⟩)
          | (refine ⟨trivial, fun h => (by cases h), ?_⟩; gi_at_call 155; refine HX.out.mono ?_; clear HX; rintro e W1 (⟨rfl, hJ1, hb1⟩ | ⟨rfl, qx, hq1, hx1⟩)))
        · have hr1 := heap_below HRAW.out hb1 HBN.out
          clear c0 c1 c2 c3 c4
          obtain ⟨c0, c1, c2, c3, c4⟩ := Raw.cells (W := W1) hr1
          obtain ⟨fn, tmps, assign, body, hy, hR⟩ := YieldAt.bool (HY.out (n - 1) _ (k, v) W1.drew (HJd.out _ _ hJ1) HLEN.out)
          have HR := Lib.hid hR
          have HR1 := Lib.hid hr1
          have HJ1 := Lib.hid hJ1
          have HB1 := Lib.hid hb1
          clear hR hr1 hJ1 hb1
          dsimp only at hy
          gi_wp2_with fail
          refine wpIn_calm ?_
          refine wpIn_region_any (by assumption) ?_
          change wpAnyIn _ _ _ _ _ _ _ _ _ (World.drew _)
          refine wpAnyIn_take (i := 0) (v := ?_) rfl rfl (by kernel_rfl) (by kernel_rfl) (by kernel_rfl) (fun _ _ _ h => h) ⟨Or.inl ⟨by kernel_rfl, ?_⟩, fun _ => rfl⟩ ?_
          rotate_left
          · intro w; go_simp; try with_reducible rfl
          simp only [List.getElem_toArray, List.getElem_cons_zero, List.getElem_cons_succ, Act.put, List.setIfInBounds_toArray, List.set_cons_zero, List.set_cons_succ]
          refine wpAnyIn_take (i := 1) (v := ?_) rfl rfl (by kernel_rfl) (by kernel_rfl) (by kernel_rfl) (fun _ _ _ h => h) ⟨Or.inl ⟨by kernel_rfl, ?_⟩, fun _ => rfl⟩ ?_
          rotate_left
          · intro w; go_simp; try with_reducible rfl
          simp only [List.getElem_toArray, List.getElem_cons_zero, List.getElem_cons_succ, Act.put, List.setIfInBounds_toArray, List.set_cons_zero, List.set_cons_succ]
          refine wpAnyIn_take (i := 2) (v := ?_) rfl rfl (by kernel_rfl) (by kernel_rfl) (by kernel_rfl) (fun _ _ _ h => h) ⟨Or.inl ⟨by kernel_rfl, ?_⟩, fun _ => rfl⟩ ?_
          rotate_left
          · intro w; go_simp; try with_reducible rfl
          simp only [List.getElem_toArray, List.getElem_cons_zero, List.getElem_cons_succ, Act.put, List.setIfInBounds_toArray, List.set_cons_zero, List.set_cons_succ]
          refine wpAnyIn_take (i := 3) (v := ?_) rfl rfl (by kernel_rfl) (by kernel_rfl) (by kernel_rfl) (fun _ _ _ h => h) ⟨Or.inl ⟨by kernel_rfl, ?_⟩, fun _ => rfl⟩ ?_
          rotate_left
          · intro w; go_simp; try with_reducible rfl
          simp only [List.getElem_toArray, List.getElem_cons_zero, List.getElem_cons_succ, Act.put, List.setIfInBounds_toArray, List.set_cons_zero, List.set_cons_succ]
          refine wpAnyIn_take (i := 4) (v := ?_) rfl rfl (by kernel_rfl) (by kernel_rfl) (by kernel_rfl) (fun _ _ _ h => h) ⟨Or.inl ⟨by kernel_rfl, ?_⟩, fun _ => rfl⟩ ?_
          rotate_left
          · intro w; go_simp; try with_reducible rfl
          simp only [List.getElem_toArray, List.getElem_cons_zero, List.getElem_cons_succ, Act.put, List.setIfInBounds_toArray, List.set_cons_zero, List.set_cons_succ]
          refine wpAnyIn_take (i := 5) (v := ?_) rfl rfl (by kernel_rfl) (by kernel_rfl) (by kernel_rfl) (fun _ _ _ h => h) ⟨Or.inl ⟨by kernel_rfl, ?_⟩, fun _ => rfl⟩ ?_
          rotate_left
          · intro w; go_simp; try with_reducible rfl
          simp only [List.getElem_toArray, List.getElem_cons_zero, List.getElem_cons_succ, Act.put, List.setIfInBounds_toArray, List.set_cons_zero, List.set_cons_succ]
          refine wpAnyIn_take (i := 6) (v := ?_) rfl rfl (by kernel_rfl) (by kernel_rfl) (by kernel_rfl) (fun _ _ _ h => h) ⟨Or.inl ⟨by kernel_rfl, ?_⟩, fun _ => rfl⟩ ?_
          rotate_left
          · intro w; go_simp; try with_reducible rfl
          simp only [List.getElem_toArray, List.getElem_cons_zero, List.getElem_cons_succ, Act.put, List.setIfInBounds_toArray, List.set_cons_zero, List.set_cons_succ]
          refine wpAnyIn_take (i := 7) (v := ?_) rfl rfl (by kernel_rfl) (by kernel_rfl) (by kernel_rfl) (fun _ _ _ h => h) ⟨Or.inl ⟨by kernel_rfl, ?_⟩, fun _ => rfl⟩ ?_
          rotate_left
          · intro w; go_simp; try with_reducible rfl
          simp only [List.getElem_toArray, List.getElem_cons_zero, List.getElem_cons_succ, Act.put, List.setIfInBounds_toArray, List.set_cons_zero, List.set_cons_succ]
          refine wpAnyIn_take (i := 9) (v := ?_) rfl rfl (by kernel_rfl) (by kernel_rfl) (by kernel_rfl) (fun _ _ _ h => h) ⟨Or.inl ⟨by kernel_rfl, ?_⟩, fun _ => rfl⟩ ?_
          rotate_left
          · intro w; go_simp; try with_reducible rfl
          simp only [List.getElem_toArray, List.getElem_cons_zero, List.getElem_cons_succ, Act.put, List.setIfInBounds_toArray, List.set_cons_zero, List.set_cons_succ]
          refine wpAnyIn_take (i := 10) (v := ?_) rfl rfl (by kernel_rfl) (by kernel_rfl) (by kernel_rfl) (fun _ _ _ h => h) ⟨Or.inl ⟨by kernel_rfl, ?_⟩, fun _ => rfl⟩ ?_
          rotate_left
          · intro w; go_simp; try with_reducible rfl
          simp only [List.getElem_toArray, List.getElem_cons_zero, List.getElem_cons_succ, Act.put, List.setIfInBounds_toArray, List.set_cons_zero, List.set_cons_succ]
          refine wpAnyIn_take (i := 11) (v := ?_) rfl rfl (by kernel_rfl) (by kernel_rfl) (by kernel_rfl) (fun _ _ _ h => h) ⟨Or.inl ⟨by kernel_rfl, ?_⟩, fun _ => rfl⟩ ?_
          rotate_left
          · intro w; go_simp; try with_reducible rfl
          simp only [List.getElem_toArray, List.getElem_cons_zero, List.getElem_cons_succ, Act.put, List.setIfInBounds_toArray, List.set_cons_zero, List.set_cons_succ]
          refine wpAnyIn_ready (rs := [8, 12]) (by kernel_rfl) (by simp) ?_
          refine AllReadyIn.cons rfl (fun K hK => ?_) (AllReadyIn.cons rfl (fun K hK => ?_) AllReadyIn.nil)
          · go_simp
            refine hK _ _ ?_
            clear hK K
            refine wpAnyIn_ready (rs := [12]) (by kernel_rfl) (by simp) ?_
            refine AllReadyIn.cons rfl (fun K hK => ?_) AllReadyIn.nil
            go_simp
            refine hK _ _ ?_
            clear hK K
            refine wpAnyIn_ready (rs := [13]) (by kernel_rfl) (by simp) ?_
            refine AllReadyIn.cons rfl (fun K hK => ?_) AllReadyIn.nil
            go_simp
            refine ⟨fun h => (by cases h), RoundIn.mono HR.out ?_⟩
            rintro e W2 ⟨bv, rfl, hbv⟩
            dsimp only
            refine hK _ _ ?_
            clear hK K
            refine wpAnyIn_take (i := 14) (v := ?_) rfl rfl (by kernel_rfl) (by kernel_rfl) (by kernel_rfl) (fun _ _ _ h => h) ⟨Or.inl ⟨by kernel_rfl, ?_⟩, fun _ => rfl⟩ ?_
            rotate_left
            · intro w; go_simp; try with_reducible rfl
            simp only [List.getElem_toArray, List.getElem_cons_zero, List.getElem_cons_succ, Act.put, List.setIfInBounds_toArray, List.set_cons_zero, List.set_cons_succ]
            refine wpAnyIn_take (i := 15) (v := ?_) rfl rfl (by kernel_rfl) (by kernel_rfl) (by kernel_rfl) (fun _ _ _ h => h) ⟨Or.inl ⟨by kernel_rfl, ?_⟩, fun _ => rfl⟩ ?_
            rotate_left
            · intro w; go_simp; try with_reducible rfl
            simp only [List.getElem_toArray, List.getElem_cons_zero, List.getElem_cons_succ, Act.put, List.setIfInBounds_toArray, List.set_cons_zero, List.set_cons_succ]
            refine wpAnyIn_done (by kernel_rfl) ?_ _
            dsimp only
            clear hy
            cases bv
            · obtain ⟨_, hjx⟩ := hbv.out.resolve_left (fun h => by cases h.1)
              have HJX := Lib.hid hjx
              clear hjx
              gi_wp2
              go_ret
              exact .inr ⟨rfl, done ++ (l'.list.drop s' ++ [(k, v)]), ⟨r.list, by rw [HD.out, HDR.out]; simp [List.append_assoc]⟩, by have h := HJX.out; simpa [List.append_assoc] using h⟩
            · obtain ⟨_, hj2, hk2⟩ := hbv.out.resolve_right (fun h => by cases h.1)
              have hr2 := heap_below (show W1.heap[b]? = _ from HR1.out) (Below.trans ((Below.refl n₀ W1).drew) hk2) HBN.out
              clear c0 c1 c2 c3 c4
              obtain ⟨c0, c1, c2, c3, c4⟩ := Raw.cells (W := W2) hr2
              have HJ2 := Lib.hid hj2
              have HK3 := Lib.hid (HB1.out.trans (Below.trans ((Below.refl n₀ W1).drew) hk2))
              clear hj2 hk2 hr2
              gi_wp2
              gi_roundg r.count
              case measure => rw [hg.out]; simp only [T.count]; omega
              case rel => exact ⟨pr, r, 0, rfl, rfl, by omega, Lib.hid rfl, Lib.hid ⟨by have := HCN.out; omega, by have := HCN.out; omega⟩, Lib.hid ⟨done ++ l'.list.drop s' ++ [(k, v)], IsT.low HK3.out HRR.out, by have h := HJ2.out; simpa [List.append_assoc] using h, by rw [HD.out, HDR.out]; simp [List.append_assoc], HB.out.trans HK3.out⟩⟩
          · go_simp
            refine hK _ _ ?_
            clear hK K
            refine wpAnyIn_ready (rs := [8]) (by kernel_rfl) (by simp) ?_
            refine AllReadyIn.cons rfl (fun K hK => ?_) AllReadyIn.nil
            go_simp
            refine hK _ _ ?_
            clear hK K
            refine wpAnyIn_ready (rs := [13]) (by kernel_rfl) (by simp) ?_
            refine AllReadyIn.cons rfl (fun K hK => ?_) AllReadyIn.nil
            go_simp
            refine ⟨fun h => (by cases h), RoundIn.mono HR.out ?_⟩
            rintro e W2 ⟨bv, rfl, hbv⟩
            dsimp only
            refine hK _ _ ?_
            clear hK K
            refine wpAnyIn_take (i := 14) (v := ?_) rfl rfl (by kernel_rfl) (by kernel_rfl) (by kernel_rfl) (fun _ _ _ h => h) ⟨Or.inl ⟨by kernel_rfl, ?_⟩, fun _ => rfl⟩ ?_
            rotate_left
            · intro w; go_simp; try with_reducible rfl
            simp only [List.getElem_toArray, List.getElem_cons_zero, List.getElem_cons_succ, Act.put, List.setIfInBounds_toArray, List.set_cons_zero, List.set_cons_succ]
            refine wpAnyIn_take (i := 15) (v := ?_) rfl rfl (by kernel_rfl) (by kernel_rfl) (by kernel_rfl) (fun _ _ _ h => h) ⟨Or.inl ⟨by kernel_rfl, ?_⟩, fun _ => rfl⟩ ?_
            rotate_left
            · intro w; go_simp; try with_reducible rfl
            simp only [List.getElem_toArray, List.getElem_cons_zero, List.getElem_cons_succ, Act.put, List.setIfInBounds_toArray, List.set_cons_zero, List.set_cons_succ]
            refine wpAnyIn_done (by kernel_rfl) ?_ _
            dsimp only
            clear hy
            cases bv
            · obtain ⟨_, hjx⟩ := hbv.out.resolve_left (fun h => by cases h.1)
              have HJX := Lib.hid hjx
              clear hjx
              gi_wp2
              go_ret
              exact .inr ⟨rfl, done ++ (l'.list.drop s' ++ [(k, v)]), ⟨r.list, by rw [HD.out, HDR.out]; simp [List.append_assoc]⟩, by have h := HJX.out; simpa [List.append_assoc] using h⟩
            · obtain ⟨_, hj2, hk2⟩ := hbv.out.resolve_right (fun h => by cases h.1)
              have hr2 := heap_below (show W1.heap[b]? = _ from HR1.out) (Below.trans ((Below.refl n₀ W1).drew) hk2) HBN.out
              clear c0 c1 c2 c3 c4
              obtain ⟨c0, c1, c2, c3, c4⟩ := Raw.cells (W := W2) hr2
              have HJ2 := Lib.hid hj2
              have HK3 := Lib.hid (HB1.out.trans (Below.trans ((Below.refl n₀ W1).drew) hk2))
              clear hj2 hk2 hr2
              gi_wp2
              gi_roundg r.count
              case measure => rw [hg.out]; simp only [T.count]; omega
              case rel => exact ⟨pr, r, 0, rfl, rfl, by omega, Lib.hid rfl, Lib.hid ⟨by have := HCN.out; omega, by have := HCN.out; omega⟩, Lib.hid ⟨done ++ l'.list.drop s' ++ [(k, v)], IsT.low HK3.out HRR.out, by have h := HJ2.out; simpa [List.append_assoc] using h, by rw [HD.out, HDR.out]; simp [List.append_assoc], HB.out.trans HK3.out⟩⟩
        · obtain ⟨rq, hrq⟩ := hq1
          have HEND := Lib.hid (show ∃ q, q <+: t.list.drop s ∧ Jx (pre ++ q) W1 from ⟨done ++ qx, ⟨rq ++ (k, v) :: r.list, by rw [HD.out, HDR.out, ← hrq]; simp [List.append_assoc]⟩, by simpa [List.append_assoc] using hx1⟩)
          clear hx1
          gi_wp2
          go_ret
          exact .inr ⟨rfl, HEND.out⟩
      · have hd : decide ((s' : Int) < (a : Int)) = false := by simp; omega
        have hd1 : decide (s' < a) = false := by simp; omega
        by_cases heq : s' = a
        · subst heq
          have hd2 : decide ((s' : Int) ≤ (s' : Int)) = true := by simp
          have hd3 : decide (s' ≤ s') = true := by simp
          have hdr : (T.node l' k v r).list.drop s' = (k, v) :: r.list := by
            rw [T.list, List.drop_left' HLA.out]
          have hlen := HN.out
          rw [HD.out, hdr] at hlen
          obtain ⟨_, hlen2⟩ := pre_two (A := pre) (B := done) (C := []) hlen
          rw [List.append_nil] at hlen2
          have HDR := Lib.hid hdr
          obtain ⟨fn, tmps, assign, body, hy, hR⟩ := YieldAt.bool (HY.out (n - 1) _ (k, v) wr.drew (HJd.out _ _ HJ'.out) hlen2)
          have HR := Lib.hid hR
          clear hR hdr hlen hlen2
          dsimp only at hy
          gi_wp2_with (refine ⟨trivial, fun h => (by cases h), ?_⟩; gi_at_call 148; refine (callsIn_wide.2 HCn.out).mono ?_; rintro e w' ⟨rfl, rfl⟩)
          refine ⟨trivial, ?_⟩
          gi_wp2_with fail
          refine wpIn_calm ?_
          refine wpIn_region_any (by assumption) ?_
          change wpAnyIn _ _ _ _ _ _ _ _ _ (World.drew _)
          refine wpAnyIn_take (i := 0) (v := ?_) rfl rfl (by kernel_rfl) (by kernel_rfl) (by kernel_rfl) (fun _ _ _ h => h) ⟨Or.inl ⟨by kernel_rfl, ?_⟩, fun _ => rfl⟩ ?_
          rotate_left
          · intro w; go_simp; try with_reducible rfl
          simp only [List.getElem_toArray, List.getElem_cons_zero, List.getElem_cons_succ, Act.put, List.setIfInBounds_toArray, List.set_cons_zero, List.set_cons_succ]
          refine wpAnyIn_take (i := 1) (v := ?_) rfl rfl (by kernel_rfl) (by kernel_rfl) (by kernel_rfl) (fun _ _ _ h => h) ⟨Or.inl ⟨by kernel_rfl, ?_⟩, fun _ => rfl⟩ ?_
          rotate_left
          · intro w; go_simp; try with_reducible rfl
          simp only [List.getElem_toArray, List.getElem_cons_zero, List.getElem_cons_succ, Act.put, List.setIfInBounds_toArray, List.set_cons_zero, List.set_cons_succ]
          refine wpAnyIn_take (i := 2) (v := ?_) rfl rfl (by kernel_rfl) (by kernel_rfl) (by kernel_rfl) (fun _ _ _ h => h) ⟨Or.inl ⟨by kernel_rfl, ?_⟩, fun _ => rfl⟩ ?_
          rotate_left
          · intro w; go_simp; try with_reducible rfl
          simp only [List.getElem_toArray, List.getElem_cons_zero, List.getElem_cons_succ, Act.put, List.setIfInBounds_toArray, List.set_cons_zero, List.set_cons_succ]
          refine wpAnyIn_take (i := 3) (v := ?_) rfl rfl (by kernel_rfl) (by kernel_rfl) (by kernel_rfl) (fun _ _ _ h => h) ⟨Or.inl ⟨by kernel_rfl, ?_⟩, fun _ => rfl⟩ ?_
          rotate_left
          · intro w; go_simp; try with_reducible rfl
          simp only [List.getElem_toArray, List.getElem_cons_zero, List.getElem_cons_succ, Act.put, List.setIfInBounds_toArray, List.set_cons_zero, List.set_cons_succ]
          refine wpAnyIn_take (i := 4) (v := ?_) rfl rfl (by kernel_rfl) (by kernel_rfl) (by kernel_rfl) (fun _ _ _ h => h) ⟨Or.inl ⟨by kernel_rfl, ?_⟩, fun _ => rfl⟩ ?_
          rotate_left
          · intro w; go_simp; try with_reducible rfl
          simp only [List.getElem_toArray, List.getElem_cons_zero, List.getElem_cons_succ, Act.put, List.setIfInBounds_toArray, List.set_cons_zero, List.set_cons_succ]
          refine wpAnyIn_take (i := 5) (v := ?_) rfl rfl (by kernel_rfl) (by kernel_rfl) (by kernel_rfl) (fun _ _ _ h => h) ⟨Or.inl ⟨by kernel_rfl, ?_⟩, fun _ => rfl⟩ ?_
          rotate_left
          · intro w; go_simp; try with_reducible rfl
          simp only [List.getElem_toArray, List.getElem_cons_zero, List.getElem_cons_succ, Act.put, List.setIfInBounds_toArray, List.set_cons_zero, List.set_cons_succ]
          refine wpAnyIn_take (i := 6) (v := ?_) rfl rfl (by kernel_rfl) (by kernel_rfl) (by kernel_rfl) (fun _ _ _ h => h) ⟨Or.inl ⟨by kernel_rfl, ?_⟩, fun _ => rfl⟩ ?_
          rotate_left
          · intro w; go_simp; try with_reducible rfl
          simp only [List.getElem_toArray, List.getElem_cons_zero, List.getElem_cons_succ, Act.put, List.setIfInBounds_toArray, List.set_cons_zero, List.set_cons_succ]
          refine wpAnyIn_take (i := 7) (v := ?_) rfl rfl (by kernel_rfl) (by kernel_rfl) (by kernel_rfl) (fun _ _ _ h => h) ⟨Or.inl ⟨by kernel_rfl, ?_⟩, fun _ => rfl⟩ ?_
          rotate_left
          · intro w; go_simp; try with_reducible rfl
          simp only [List.getElem_toArray, List.getElem_cons_zero, List.getElem_cons_succ, Act.put, List.setIfInBounds_toArray, List.set_cons_zero, List.set_cons_succ]
          refine wpAnyIn_take (i := 9) (v := ?_) rfl rfl (by kernel_rfl) (by kernel_rfl) (by kernel_rfl) (fun _ _ _ h => h) ⟨Or.inl ⟨by kernel_rfl, ?_⟩, fun _ => rfl⟩ ?_
          rotate_left
          · intro w; go_simp; try with_reducible rfl
          simp only [List.getElem_toArray, List.getElem_cons_zero, List.getElem_cons_succ, Act.put, List.setIfInBounds_toArray, List.set_cons_zero, List.set_cons_succ]
          refine wpAnyIn_take (i := 10) (v := ?_) rfl rfl (by kernel_rfl) (by kernel_rfl) (by kernel_rfl) (fun _ _ _ h => h) ⟨Or.inl ⟨by kernel_rfl, ?_⟩, fun _ => rfl⟩ ?_
          rotate_left
          · intro w; go_simp; try with_reducible rfl
          simp only [List.getElem_toArray, List.getElem_cons_zero, List.getElem_cons_succ, Act.put, List.setIfInBounds_toArray, List.set_cons_zero, List.set_cons_succ]
          refine wpAnyIn_take (i := 11) (v := ?_) rfl rfl (by kernel_rfl) (by kernel_rfl) (by kernel_rfl) (fun _ _ _ h => h) ⟨Or.inl ⟨by kernel_rfl, ?_⟩, fun _ => rfl⟩ ?_
          rotate_left
          · intro w; go_simp; try with_reducible rfl
          simp only [List.getElem_toArray, List.getElem_cons_zero, List.getElem_cons_succ, Act.put, List.setIfInBounds_toArray, List.set_cons_zero, List.set_cons_succ]
          refine wpAnyIn_ready (rs := [8, 12]) (by kernel_rfl) (by simp) ?_
          refine AllReadyIn.cons rfl (fun K hK => ?_) (AllReadyIn.cons rfl (fun K hK => ?_) AllReadyIn.nil)
          · go_simp
            refine hK _ _ ?_
            clear hK K
            refine wpAnyIn_ready (rs := [12]) (by kernel_rfl) (by simp) ?_
            refine AllReadyIn.cons rfl (fun K hK => ?_) AllReadyIn.nil
            go_simp
            refine hK _ _ ?_
            clear hK K
            refine wpAnyIn_ready (rs := [13]) (by kernel_rfl) (by simp) ?_
            refine AllReadyIn.cons rfl (fun K hK => ?_) AllReadyIn.nil
            go_simp
            refine ⟨fun h => (by cases h), RoundIn.mono HR.out ?_⟩
            rintro e W2 ⟨bv, rfl, hbv⟩
            dsimp only
            refine hK _ _ ?_
            clear hK K
            refine wpAnyIn_take (i := 14) (v := ?_) rfl rfl (by kernel_rfl) (by kernel_rfl) (by kernel_rfl) (fun _ _ _ h => h) ⟨Or.inl ⟨by kernel_rfl, ?_⟩, fun _ => rfl⟩ ?_
            rotate_left
            · intro w; go_simp; try with_reducible rfl
            simp only [List.getElem_toArray, List.getElem_cons_zero, List.getElem_cons_succ, Act.put, List.setIfInBounds_toArray, List.set_cons_zero, List.set_cons_succ]
            refine wpAnyIn_take (i := 15) (v := ?_) rfl rfl (by kernel_rfl) (by kernel_rfl) (by kernel_rfl) (fun _ _ _ h => h) ⟨Or.inl ⟨by kernel_rfl, ?_⟩, fun _ => rfl⟩ ?_
            rotate_left
            · intro w; go_simp; try with_reducible rfl
            simp only [List.getElem_toArray, List.getElem_cons_zero, List.getElem_cons_succ, Act.put, List.setIfInBounds_toArray, List.set_cons_zero, List.set_cons_succ]
            refine wpAnyIn_done (by kernel_rfl) ?_ _
            dsimp only
            clear hy
            cases bv
            · obtain ⟨_, hjx⟩ := hbv.out.resolve_left (fun h => by cases h.1)
              have HJX := Lib.hid hjx
              clear hjx
              gi_wp2
              go_ret
              exact .inr ⟨rfl, done ++ [(k, v)], ⟨r.list, by rw [HD.out, HDR.out]; simp [List.append_assoc]⟩, by have h := HJX.out; simpa [List.append_assoc] using h⟩
            · obtain ⟨_, hj2, hk2⟩ := hbv.out.resolve_right (fun h => by cases h.1)
              have hr2 := heap_below (show wr.heap[b]? = _ from HRAW.out) (Below.trans ((Below.refl n₀ wr).drew) hk2) HBN.out
              clear c0 c1 c2 c3 c4
              obtain ⟨c0, c1, c2, c3, c4⟩ := Raw.cells (W := W2) hr2
              have HJ2 := Lib.hid hj2
              have HK3 := Lib.hid (Below.trans ((Below.refl n₀ wr).drew) hk2)
              clear hj2 hk2 hr2
              gi_wp2
              gi_roundg r.count
              case measure => rw [hg.out]; simp only [T.count]; omega
              case rel => exact ⟨pr, r, 0, rfl, rfl, by omega, Lib.hid rfl, Lib.hid ⟨by have := HCN.out; omega, by have := HCN.out; omega⟩, Lib.hid ⟨done ++ [(k, v)], IsT.low HK3.out HRR.out, by have h := HJ2.out; simpa [List.append_assoc] using h, by rw [HD.out, HDR.out]; simp [List.append_assoc], HB.out.trans HK3.out⟩⟩
          · go_simp
            refine hK _ _ ?_
            clear hK K
            refine wpAnyIn_ready (rs := [8]) (by kernel_rfl) (by simp) ?_
            refine AllReadyIn.cons rfl (fun K hK => ?_) AllReadyIn.nil
            go_simp
            refine hK _ _ ?_
            clear hK K
            refine wpAnyIn_ready (rs := [13]) (by kernel_rfl) (by simp) ?_
            refine AllReadyIn.cons rfl (fun K hK => ?_) AllReadyIn.nil
            go_simp
            refine ⟨fun h => (by cases h), RoundIn.mono HR.out ?_⟩
            rintro e W2 ⟨bv, rfl, hbv⟩
            dsimp only
            refine hK _ _ ?_
            clear hK K
            refine wpAnyIn_take (i := 14) (v := ?_) rfl rfl (by kernel_rfl) (by kernel_rfl) (by kernel_rfl) (fun _ _ _ h => h) ⟨Or.inl ⟨by kernel_rfl, ?_⟩, fun _ => rfl⟩ ?_
            rotate_left
            · intro w; go_simp; try with_reducible rfl
            simp only [List.getElem_toArray, List.getElem_cons_zero, List.getElem_cons_succ, Act.put, List.setIfInBounds_toArray, List.set_cons_zero, List.set_cons_succ]
            refine wpAnyIn_take (i := 15) (v := ?_) rfl rfl (by kernel_rfl) (by kernel_rfl) (by kernel_rfl) (fun _ _ _ h => h) ⟨Or.inl ⟨by kernel_rfl, ?_⟩, fun _ => rfl⟩ ?_
            rotate_left
            · intro w; go_simp; try with_reducible rfl
            simp only [List.getElem_toArray, List.getElem_cons_zero, List.getElem_cons_succ, Act.put, List.setIfInBounds_toArray, List.set_cons_zero, List.set_cons_succ]
            refine wpAnyIn_done (by kernel_rfl) ?_ _
            dsimp only
            clear hy
            cases bv
            · obtain ⟨_, hjx⟩ := hbv.out.resolve_left (fun h => by cases h.1)
              have HJX := Lib.hid hjx
              clear hjx
              gi_wp2
              go_ret
              exact .inr ⟨rfl, done ++ [(k, v)], ⟨r.list, by rw [HD.out, HDR.out]; simp [List.append_assoc]⟩, by have h := HJX.out; simpa [List.append_assoc] using h⟩
            · obtain ⟨_, hj2, hk2⟩ := hbv.out.resolve_right (fun h => by cases h.1)
              have hr2 := heap_below (show wr.heap[b]? = _ from HRAW.out) (Below.trans ((Below.refl n₀ wr).drew) hk2) HBN.out
              clear c0 c1 c2 c3 c4
              obtain ⟨c0, c1, c2, c3, c4⟩ := Raw.cells (W := W2) hr2
              have HJ2 := Lib.hid hj2
              have HK3 := Lib.hid (Below.trans ((Below.refl n₀ wr).drew) hk2)
              clear hj2 hk2 hr2
              gi_wp2
              gi_roundg r.count
              case measure => rw [hg.out]; simp only [T.count]; omega
              case rel => exact ⟨pr, r, 0, rfl, rfl, by omega, Lib.hid rfl, Lib.hid ⟨by have := HCN.out; omega, by have := HCN.out; omega⟩, Lib.hid ⟨done ++ [(k, v)], IsT.low HK3.out HRR.out, by have h := HJ2.out; simpa [List.append_assoc] using h, by rw [HD.out, HDR.out]; simp [List.append_assoc], HB.out.trans HK3.out⟩⟩

        · have hgt : a < s' := by omega
          have hd2 : decide ((s' : Int) ≤ (a : Int)) = false := by simp; omega
          have hd3 : decide (s' ≤ a) = false := by simp; omega
          have hdr : (T.node l' k v r).list.drop s' = r.list.drop (s' - a - 1) := by
            rw [T.list, List.drop_append, List.drop_of_length_le (by rw [HLA.out]; omega), HLA.out, List.nil_append, show s' - a = (s' - a - 1) + 1 by omega]
            rfl
          have HDR := Lib.hid hdr
          clear hdr
          gi_wp2_with (refine ⟨trivial, fun h => (by cases h), ?_⟩; gi_at_call 148; refine (callsIn_wide.2 HCn.out).mono ?_; rintro e w' ⟨rfl, rfl⟩)
          refine ⟨trivial, ?_⟩
          gi_wp2_with fail
          refine wpIn_calm ?_
          refine wpIn_region_any (by assumption) ?_
          change wpAnyIn _ _ _ _ _ _ _ _ _ (World.drew _)
          refine wpAnyIn_take (i := 0) (v := ?_) rfl rfl (by kernel_rfl) (by kernel_rfl) (by kernel_rfl) (fun _ _ _ h => h) ⟨Or.inl ⟨by kernel_rfl, ?_⟩, fun _ => rfl⟩ ?_
          rotate_left
          · intro w; go_simp; try with_reducible rfl
          simp only [List.getElem_toArray, List.getElem_cons_zero, List.getElem_cons_succ, Act.put, List.setIfInBounds_toArray, List.set_cons_zero, List.set_cons_succ]
          refine wpAnyIn_take (i := 1) (v := ?_) rfl rfl (by kernel_rfl) (by kernel_rfl) (by kernel_rfl) (fun _ _ _ h => h) ⟨Or.inl ⟨by kernel_rfl, ?_⟩, fun _ => rfl⟩ ?_
          rotate_left
          · intro w; go_simp; try with_reducible rfl
          simp only [List.getElem_toArray, List.getElem_cons_zero, List.getElem_cons_succ, Act.put, List.setIfInBounds_toArray, List.set_cons_zero, List.set_cons_succ]
          refine wpAnyIn_take (i := 2) (v := ?_) rfl rfl (by kernel_rfl) (by kernel_rfl) (by kernel_rfl) (fun _ _ _ h => h) ⟨Or.inl ⟨by kernel_rfl, ?_⟩, fun _ => rfl⟩ ?_
          rotate_left
          · intro w; go_simp; try with_reducible rfl
          simp only [List.getElem_toArray, List.getElem_cons_zero, List.getElem_cons_succ, Act.put, List.setIfInBounds_toArray, List.set_cons_zero, List.set_cons_succ]
          refine wpAnyIn_take (i := 3) (v := ?_) rfl rfl (by kernel_rfl) (by kernel_rfl) (by kernel_rfl) (fun _ _ _ h => h) ⟨Or.inl ⟨by kernel_rfl, ?_⟩, fun _ => rfl⟩ ?_
          rotate_left
          · intro w; go_simp; try with_reducible rfl
          simp only [List.getElem_toArray, List.getElem_cons_zero, List.getElem_cons_succ, Act.put, List.setIfInBounds_toArray, List.set_cons_zero, List.set_cons_succ]
          refine wpAnyIn_take (i := 4) (v := undef) rfl rfl (by kernel_rfl) (by kernel_rfl) (by kernel_rfl) (fun _ _ _ h => h) ⟨Or.inr ⟨by kernel_rfl, rfl⟩, fun _ => rfl⟩ ?_
          simp only [List.getElem_toArray, List.getElem_cons_zero, List.getElem_cons_succ, Act.put, List.setIfInBounds_toArray, List.set_cons_zero, List.set_cons_succ]
          refine wpAnyIn_take (i := 5) (v := undef) rfl rfl (by kernel_rfl) (by kernel_rfl) (by kernel_rfl) (fun _ _ _ h => h) ⟨Or.inr ⟨by kernel_rfl, rfl⟩, fun _ => rfl⟩ ?_
          simp only [List.getElem_toArray, List.getElem_cons_zero, List.getElem_cons_succ, Act.put, List.setIfInBounds_toArray, List.set_cons_zero, List.set_cons_succ]
          refine wpAnyIn_take (i := 6) (v := undef) rfl rfl (by kernel_rfl) (by kernel_rfl) (by kernel_rfl) (fun _ _ _ h => h) ⟨Or.inr ⟨by kernel_rfl, rfl⟩, fun _ => rfl⟩ ?_
          simp only [List.getElem_toArray, List.getElem_cons_zero, List.getElem_cons_succ, Act.put, List.setIfInBounds_toArray, List.set_cons_zero, List.set_cons_succ]
          refine wpAnyIn_take (i := 7) (v := undef) rfl rfl (by kernel_rfl) (by kernel_rfl) (by kernel_rfl) (fun _ _ _ h => h) ⟨Or.inr ⟨by kernel_rfl, rfl⟩, fun _ => rfl⟩ ?_
          simp only [List.getElem_toArray, List.getElem_cons_zero, List.getElem_cons_succ, Act.put, List.setIfInBounds_toArray, List.set_cons_zero, List.set_cons_succ]
          refine wpAnyIn_take (i := 8) (v := undef) rfl rfl (by kernel_rfl) (by kernel_rfl) (by kernel_rfl) (fun _ _ _ h => h) ⟨Or.inr ⟨by kernel_rfl, rfl⟩, fun _ => rfl⟩ ?_
          simp only [List.getElem_toArray, List.getElem_cons_zero, List.getElem_cons_succ, Act.put, List.setIfInBounds_toArray, List.set_cons_zero, List.set_cons_succ]
          refine wpAnyIn_take (i := 9) (v := undef) rfl rfl (by kernel_rfl) (by kernel_rfl) (by kernel_rfl) (fun _ _ _ h => h) ⟨Or.inr ⟨by kernel_rfl, rfl⟩, fun _ => rfl⟩ ?_
          simp only [List.getElem_toArray, List.getElem_cons_zero, List.getElem_cons_succ, Act.put, List.setIfInBounds_toArray, List.set_cons_zero, List.set_cons_succ]
          refine wpAnyIn_take (i := 10) (v := undef) rfl rfl (by kernel_rfl) (by kernel_rfl) (by kernel_rfl) (fun _ _ _ h => h) ⟨Or.inr ⟨by kernel_rfl, rfl⟩, fun _ => rfl⟩ ?_
          simp only [List.getElem_toArray, List.getElem_cons_zero, List.getElem_cons_succ, Act.put, List.setIfInBounds_toArray, List.set_cons_zero, List.set_cons_succ]
          refine wpAnyIn_take (i := 11) (v := undef) rfl rfl (by kernel_rfl) (by kernel_rfl) (by kernel_rfl) (fun _ _ _ h => h) ⟨Or.inr ⟨by kernel_rfl, rfl⟩, fun _ => rfl⟩ ?_
          simp only [List.getElem_toArray, List.getElem_cons_zero, List.getElem_cons_succ, Act.put, List.setIfInBounds_toArray, List.set_cons_zero, List.set_cons_succ]
          refine wpAnyIn_take (i := 12) (v := undef) rfl rfl (by kernel_rfl) (by kernel_rfl) (by kernel_rfl) (fun _ _ _ h => h) ⟨Or.inr ⟨by kernel_rfl, rfl⟩, fun _ => rfl⟩ ?_
          simp only [List.getElem_toArray, List.getElem_cons_zero, List.getElem_cons_succ, Act.put, List.setIfInBounds_toArray, List.set_cons_zero, List.set_cons_succ]
          refine wpAnyIn_take (i := 13) (v := undef) rfl rfl (by kernel_rfl) (by kernel_rfl) (by kernel_rfl) (fun _ _ _ h => h) ⟨Or.inr ⟨by kernel_rfl, rfl⟩, fun _ => rfl⟩ ?_
          simp only [List.getElem_toArray, List.getElem_cons_zero, List.getElem_cons_succ, Act.put, List.setIfInBounds_toArray, List.set_cons_zero, List.set_cons_succ]
          refine wpAnyIn_take (i := 14) (v := undef) rfl rfl (by kernel_rfl) (by kernel_rfl) (by kernel_rfl) (fun _ _ _ h => h) ⟨Or.inr ⟨by kernel_rfl, rfl⟩, fun _ => rfl⟩ ?_
          simp only [List.getElem_toArray, List.getElem_cons_zero, List.getElem_cons_succ, Act.put, List.setIfInBounds_toArray, List.set_cons_zero, List.set_cons_succ]
          refine wpAnyIn_take (i := 15) (v := ?_) rfl rfl (by kernel_rfl) (by kernel_rfl) (by kernel_rfl) (fun _ _ _ h => h) ⟨Or.inl ⟨by kernel_rfl, ?_⟩, fun _ => rfl⟩ ?_
          rotate_left
          · intro w; go_simp; try with_reducible rfl
          simp only [List.getElem_toArray, List.getElem_cons_zero, List.getElem_cons_succ, Act.put, List.setIfInBounds_toArray, List.set_cons_zero, List.set_cons_succ]
          refine wpAnyIn_done (by kernel_rfl) ?_ _
          dsimp only
          gi_wp2
          all_goals
            gi_roundg r.count
            case measure => rw [hg.out]; simp only [T.count]; omega
            case rel => exact ⟨pr, r, s' - a - 1, rfl, by rw [show ((s' - a - 1 : Nat) : Int) = (s' : Int) - (a : Int) - 1 by omega], by omega, Lib.hid rfl, Lib.hid ⟨by have := HCN.out; omega, by have := HCN.out; omega⟩, Lib.hid ⟨done, IsT.low ((Below.refl n₀ wr).drew) HRR.out, HJd.out _ _ HJ'.out, by rw [HD.out, HDR.out], HB.out.drew⟩⟩
end Go.Proofs.YtjcmeacgfflfmaaGreat
