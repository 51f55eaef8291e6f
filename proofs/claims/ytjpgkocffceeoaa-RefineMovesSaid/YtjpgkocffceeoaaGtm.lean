/- An iterator that itself ranges over others: each element told. -/
import Derived.Test.YtjpgkocffceeoaaGt
set_option linter.unusedVariables false
set_option linter.unusedSectionVars false
namespace Go.Proofs.Ytjpgkocffceeoaa
open Go.RowKit Go.Shelf Rk

attribute [local go_sem] Oper.semAt_some

/-- As SeqN; a round is told that its element is one of D. -/
def SeqNM {α : Type} (F : Fence) (n : Nat) (P : Program) (g : Nat) (lb : Array Value) (encs : α → Array Value) (n₀ lo up : Nat) (E : TypeId) (D : List α) (w : World) : Prop :=
  ∀ (l : Nat) (J Jx : List α → World → Prop) (W : World), Below w.heap.size w W → OwnFrom W.heap.size J → OwnFrom W.heap.size Jx →
    (∀ pre x A, J pre A → pre.length < D.length → x ∈ D → YieldAt F (n - 1) P l (encs x) A fun e B => (Below n₀ A B ∧ Mid lo up A B ∧ KeepsT E W.heap.size A B) ∧ ((e = .returned (.bool true) ∧ J (pre ++ [x]) B) ∨ (e = .returned (.bool false) ∧ Jx (pre ++ [x]) B))) →
    J [] W → CallsIn F n P g (#[.func (.yield l) #[] #[]] ++ lb) W fun e B => (∃ v, e = .returned v) ∧ (J D B ∨ (∃ pre, pre <+: D ∧ Jx pre B))
/-- The same over elements that carry their place in D. -/
theorem SeqNM.sub {α : Type} {F : Fence} {n : Nat} {P : Program} {g : Nat} {lb : Array Value} {encs : α → Array Value} {n₀ lo up : Nat} {E : TypeId} {D : List α} {w : World} (h : SeqNM F n P g lb encs n₀ lo up E D w) :
    SeqN F n P g lb (fun x : {x : α // x ∈ D} => encs x.1) n₀ lo up E (fun ys => ys.map Subtype.val = D) (fun pre => pre.map Subtype.val <+: D) D.length w := fun l J Jx W hW hJ hJx hY h0 => by
  refine (h l (fun pre X => ∃ q : List {x : α // x ∈ D}, q.map Subtype.val = pre ∧ J q X) (fun pre X => ∃ q : List {x : α // x ∈ D}, q.map Subtype.val = pre ∧ Jx q X) W hW
    (fun s A B row hs hg hr => by obtain ⟨q, hq, hj⟩ := hs; exact ⟨q, hq, hJ q A B row hj hg hr⟩) (fun s A B row hs hg hr => by obtain ⟨q, hq, hj⟩ := hs; exact ⟨q, hq, hJx q A B row hj hg hr⟩)
    (fun pre x A hj hl hx => ?_) ⟨[], rfl, h0⟩).mono ?_
  · obtain ⟨q, rfl, hq⟩ := hj
    refine YieldAt.mono (hY q ⟨x, hx⟩ A hq (by simpa using hl)) ?_
    rintro e B ⟨hk, hj | hj⟩
    · exact ⟨hk, .inl ⟨hj.1, q ++ [⟨x, hx⟩], by simp, hj.2⟩⟩
    · exact ⟨hk, .inr ⟨hj.1, q ++ [⟨x, hx⟩], by simp, hj.2⟩⟩
  · rintro e B ⟨hv, ⟨q, hq, hj⟩ | ⟨pre, hp, q, rfl, hj⟩⟩
    · exact ⟨hv, .inl ⟨q, hq, hj⟩⟩
    · exact ⟨hv, .inr ⟨q, hp, hj⟩⟩
theorem tag_mem {n : Nat} (F : Nat → Nat → Int) {k : Nat} (h : k < n) {p : Int × Int} (hp : p ∈ lateD n F k) : tag k p ∈ edgesD n F := by
  obtain ⟨j, hj⟩ : ∃ j, n = (k + 1) + j := ⟨n - (k + 1), by omega⟩
  have h1 := upTo_pre n F (k + 1) j
  rw [← hj] at h1
  exact h1.subset (List.mem_append_right _ (List.mem_map.2 ⟨p, hp, rfl⟩))
set_option maxRecDepth 100000 in
set_option maxHeartbeats 2000000 in
theorem IsE.stopsM {w : World} {v : Value} {n₀ lo n : Nat} {F : Nat → Nat → Int} (h : IsE w v n₀ lo n F) (m : Nat) (E : TypeId) (hE1 : E ≠ 111) (hE2 : E ≠ 3) : ∃ lb, v = .func (.func 67) #[] lb ∧
    SeqNM Fence.wide m Try.prog 67 lb encE n₀ lo w.heap.size E (edgesD n F) w := by
  obtain ⟨Bl, lb, cs, rfl, hBl, hlb, hsz, hdone, hn, hn0, hl1, hl2⟩ := h
  refine ⟨_, rfl, fun l J Jx W hW hJ hJx hY h0 => ?_⟩
  have hBlt := heap_lt hBl
  have hlbt := heap_lt hlb
  have hzW := hW.size
  have c1 : (W.alloc (.cells #[.func (.yield l) #[] #[]] 111)).cell? ⟨Bl, 0, none⟩ = some (.slice (some ⟨lb, 0, none⟩) n n) := heap_cell (heap_alloc (heap_below hBl hW hBlt) _) rfl
  refine (callsIn_wide (n := m)).2 ((callsIn_wide (n := 5)).1 ?_)
  refine callsIn_of_wp_marks Try.func67 rfl trivial ?_ rfl
  simp only [Try.ntmps67, List.size_toArray, List.length_cons, List.length_nil, Nat.reduceAdd, Nat.reduceSub, Array.replicate_succ, Array.replicate_zero, List.push_toArray, List.append_toArray, List.nil_append, List.cons_append]
  gi_wp2
  refine wpIn_loop_ghost (fun g a wr => ∃ (k : Nat) (u3 u4 u5 u6 u10 u11 u12 u13 u14 u15 u16 u17 u18 u19 u20 u21 u22 u23 u24 : Value) (Ds : List Nat), g = n - k ∧ k ≤ n ∧ Hid (EvR n₀ lo w.heap.size n F l J W k Ds wr) ∧ a = { tmps := #[.func (.yield l) #[] #[], .pointer (some ⟨Bl, 0, none⟩), .pointer (some ⟨W.heap.size, 0, none⟩), u3, u4, u5, u6, .slice (some ⟨lb, 0, none⟩) n n, .int .i64 (n : Int), .int .i64 (k : Int), u10, u11, u12, u13, u14, u15, u16, u17, u18, u19, u20, u21, u22, u23, u24], defers := Ds.map mark }) n ?_ ?_
  · exact ⟨0, _, _, _, _, _, _, _, _, _, _, _, _, _, _, _, _, _, _, _, [], rfl, Nat.zero_le _, Lib.hid ⟨KpW.alloc W _ (by omega) hzW, Boxed.new W _ _, List.nodup_nil, fun D hD => (by cases hD), hJ.alloc _ h0⟩, rfl⟩
  · rintro g a wr ⟨k, u3, u4, u5, u6, u10, u11, u12, u13, u14, u15, u16, u17, u18, u19, u20, u21, u22, u23, u24, Ds, rfl, hk, hR, rfl⟩
    have HR := hR
    clear hR
    have hzr := HR.out.kp.below.size
    have hbl := heap_lt HR.out.box
    by_cases hlt : k < n
    · obtain ⟨u, hu, hq, hnv⟩ := hdone k hlt
      obtain ⟨lq, rfl⟩ := hq.form
      have hki : (k : Int) < (n : Int) := by omega
      have c2 : wr.cell? ⟨lb, k, none⟩ = some (.func (.func 91) #[] lq) := heap_cell ((HR.out.kp.mid.block lb hl2 hlbt).trans (heap_below hlb hW hlbt)) hu
      have hqr : IsSeq wr (.func (.func 91) #[] lq) n₀ (lateD n F k) := (hq.below hW).keptW hnv (seq_up hq) HR.out.kp
      obtain ⟨W2, hW2⟩ : ∃ W2, wr.alloc (.cells #[.int .i64 (k : Int)] 3) = W2 := ⟨_, rfl⟩
      have hz2 : W2.heap.size = wr.heap.size + 1 := by rw [← hW2]; simp
      have hq2 : IsSeq W2 (.func (.func 91) #[] lq) n₀ (lateD n F k) := by rw [← hW2]; exact hqr.below ((Below.refl _ _).alloc (Nat.le_refl _) _)
      have bA : Boxed W2 wr.heap.size 3 (.int .i64 (k : Int)) := by rw [← hW2]; exact Boxed.new wr _ _
      have bY : Boxed W2 W.heap.size 111 (.func (.yield l) #[] #[]) := by rw [← hW2]; exact HR.out.box.alloc _
      have hk2 : KpW n₀ lo w.heap.size W W2 := by rw [← hW2]; exact HR.out.kp.trans (KpW.alloc wr _ (by omega) (by omega))
      have hj2 : J (upTo n F k) W2 := by rw [← hW2]; exact hJ.alloc _ HR.out.j
      have hm2 : ∀ D ∈ Ds, W.heap.size ≤ D ∧ W2.heap[D]? = some (.deferred (some [])) := fun D hD => ⟨(HR.out.marks D hD).1, by rw [← hW2]; exact heap_alloc (HR.out.marks D hD).2 _⟩
      have hDs : ∀ D ∈ Ds, D < W2.heap.size := fun D hD => heap_lt (hm2 D hD).2
      obtain ⟨lq', e1, hst⟩ := hq2.stopsP 4
      cases e1
      have hL := upTo_le F hlt
      have hLM : ∀ p ∈ lateD n F k, tag k p ∈ edgesD n F := fun p hp => tag_mem F hlt hp
      have HLM := Lib.hid hLM
      gi_wp2
      refine wpIn_rangeFunc_ownG rfl (by omega) (gf := 91) (lb := lq) rfl trivial (enters_of Try.func91 (by kernel_rfl) rfl)
        hst.stopsF belowK_t (belowK_b (by omega)) (Below.refl _ _) (fun _ => rfl)
        (fun pre X => InR n₀ lo w.heap.size n F l J W k wr.heap.size Ds (pre.map (lateD n F k).get) X)
        (fun c pre X => c = .ret ∧ Jx (upTo n F k ++ (pre.map (lateD n F k).get).map (tag k)) X ∧ ∀ D ∈ Ds, X.heap[D]? = some (.deferred (some [])))
        (fun s A B row hs hg hr => inR_own hJ (by omega) hzW (by omega) hDs (s.map (lateD n F k).get) A B row hs hg hr) (fun c s A B row hs hg hr => outR_own hJx (by omega) hDs c (s.map (lateD n F k).get) A B row hs hg hr)
        ⟨hk2, bY, bA, fun D hD => (hm2 D hD).2, by simpa using hj2⟩
        (fun x => { tmps := #[.func (.yield l) #[] #[], .pointer (some ⟨Bl, 0, none⟩), .pointer (some ⟨W.heap.size, 0, none⟩), .pointer (some ⟨wr.heap.size, 0, none⟩), .func (.func 91) #[] lq, .int .i64 (lateD n F k)[x.val].1, .int .i64 (lateD n F k)[x.val].2, .slice (some ⟨lb, 0, none⟩) n n, .int .i64 (n : Int), .int .i64 (k : Int), .bool true, .int .i64 (k : Int), .pointer (some ⟨lb, k, none⟩), .func (.func 91) #[] lq, .func (.func 91) #[] lq, .int .i64 (lateD n F k)[x.val].1, .int .i64 (lateD n F k)[x.val].2, u17, u18, u19, u20, u21, u22, u23, u24], defers := [] }) ?assign ?body ?done ?stop
      case assign =>
        intro l' x X K hK
        unfold encP
        gi_wp2
        exact hK
      case body =>
        rintro l' pre x X hi hlx
        obtain ⟨fn, tmps, assign, body, hy, hRd⟩ := YieldAt.inRound l' (YieldAt.anyDepth rfl 2 (hY (upTo n F k ++ (pre.map (lateD n F k).get).map (tag k)) (tag k (lateD n F k)[x.val]) X hi.j (by rw [List.length_append, List.length_map, List.length_map]; omega) (HLM.out _ (List.getElem_mem x.isLt))))
        dsimp only [encE, tag] at hy
        have cy := hi.box.cell
        have ca := hi.boxA.cell
        have HI := Lib.hid hi
        clear hi
        gi_wp2
        refine hRd.mono ?_
        rintro e X' ⟨⟨k1, k2, k3⟩, h4⟩
        have hm' : ∀ D ∈ Ds, X'.heap[D]? = some (.deferred (some [])) := fun D hD => k3.same D _ (HR.out.marks D hD).1 (HI.out.marks D hD) (fun cs fr e => by cases e)
        have KP := Lib.hid (HI.out.kp.trans ⟨k1, k2⟩)
        have BX := Lib.hid (boxed_keptT HI.out.box k3 (Nat.le_refl _) hE1)
        have BA := Lib.hid (boxed_keptT HI.out.boxA k3 (by omega) hE2)
        have KF := Lib.hid (k3.from (b := W2.heap.size) (by omega))
        have HM := Lib.hid hm'
        have K1 := Lib.hid k1
        rw [show upTo n F k ++ List.map (tag k) (List.map (lateD n F k).get pre) ++ [tag k (lateD n F k)[x.val]] = upTo n F k ++ List.map (tag k) (List.map (lateD n F k).get (pre ++ [x])) by simp] at h4
        clear k1 k2 k3 hm' HI cy ca
        rcases h4 with ⟨rfl, hj⟩ | ⟨rfl, hj⟩
        · have HJ' := Lib.hid hj
          clear hj
          gi_wp2
          exact ⟨KF.out, K1.out, KP.out, BX.out, BA.out, HM.out, HJ'.out⟩
        · have HJ' := Lib.hid hj
          clear hj
          gi_wp2
          exact ⟨KF.out, rfl, HJ'.out, HM.out⟩
      case done =>
        rintro D ys X hD rfl hi hK
        rw [get_finRange] at hi
        have HI := Lib.hid hi
        have HK := Lib.hid hK
        clear hi hK
        gi_wp2
        refine ⟨n - (k + 1), by omega, k + 1, _, _, _, _, _, _, _, _, _, _, _, _, _, _, _, _, _, _, _, D :: Ds, rfl, by omega, Lib.hid ⟨HI.out.kp, HI.out.box, List.nodup_cons.2 ⟨fun h => by have := hDs D h; omega, HR.out.nodup⟩, fun D' hD' => ?_, HI.out.j⟩, rfl⟩
        rcases List.mem_cons.1 hD' with rfl | hD'
        · exact ⟨by omega, HK.out⟩
        · exact ⟨(HR.out.marks D' hD').1, HI.out.marks D' hD'⟩
      case stop =>
        rintro D c pre X hD hpre ⟨rfl, hjx, hmk⟩ hK
        have HX := Lib.hid hjx
        have HM := Lib.hid hmk
        have HK := Lib.hid hK
        clear hjx hmk hK
        gi_wp2
        refine leaves_marks (B := W.heap.size) (Pp := fun X => Jx (upTo n F k ++ (pre.map (lateD n F k).get).map (tag k)) X) (fun A l o o' hP hl ho hc => hJx.putObj o' hP hl ho hc) (fun X hX => ⟨_, by simp [results, Try.f67, go_sem]; rfl, ⟨_, rfl⟩, .inr ⟨_, upTo_part F hlt (by rw [get_take _ hpre]; exact List.take_prefix _ _), hX⟩⟩) (D :: Ds) X (List.nodup_cons.2 ⟨fun h => by have := hDs D h; omega, HR.out.nodup⟩) (fun D' hD' => ?_) HX.out
        rcases List.mem_cons.1 hD' with rfl | hD'
        · exact ⟨by omega, HK.out⟩
        · exact ⟨(HR.out.marks D' hD').1, HM.out D' hD'⟩
    · obtain rfl : k = n := by omega
      gi_wp2
      refine leaves_marks (B := W.heap.size) (Pp := fun X => J (upTo k F k) X) (fun A l o o' hP hl ho hc => hJ.putObj o' hP hl ho hc) (fun X hX => ⟨_, by simp [results, Try.f67, go_sem]; rfl, ⟨_, rfl⟩, .inl hX⟩) Ds wr HR.out.nodup HR.out.marks HR.out.j
end Go.Proofs.Ytjpgkocffceeoaa
