/- Contracts: a map's calls. -/
import Derived.Test.YtjpgkocffceeoaaGg
set_option linter.unusedVariables false
set_option linter.unusedSectionVars false
namespace Go.Proofs.Ytjpgkocffceeoaa
open Go.RowKit Rk

/-- Is an object no node? -/
def NotNode (o : Obj) : Prop := ∀ cs fr, o ≠ .cells cs 135 fr
/-- What turns no node leaves each tree. -/
theorem IsT.spared {S R : Nat → Prop} {W W' : World} (ht : Turned R W W') (hn : ∀ c, R c → ∀ o, W.heap[c]? = some o → NotNode o) : ∀ {p : Option Addr} {t : T Int Int}, IsT S W p t → IsT S W' p t
  | _, .nil, h => h
  | _, .node _ _ _ _, ⟨b, pl, pr, e, hs, hr, h1, h2⟩ => ⟨b, pl, pr, e, hs, hr.turned ht (fun hc => hn b hc _ hr _ _ rfl), h1.spared ht hn, h2.spared ht hn⟩
/-- A tree's nodes are no blocks of another kind. -/
theorem IsT.apart {S : Nat → Prop} {W : World} {m : Nat} {o : Obj} (hm : W.heap[m]? = some o) (ho : NotNode o) : ∀ {p : Option Addr} {t : T Int Int}, IsT S W p t → IsT (fun c => c ≠ m) W p t
  | _, .nil, h => h
  | _, .node _ _ _ _, ⟨b, pl, pr, e, hs, hr, h1, h2⟩ => ⟨b, pl, pr, e, fun ec => by subst ec; rw [show W.heap[b]? = _ from hr] at hm; cases hm; exact ho _ _ rfl, hr, h1.apart hm ho, h2.apart hm ho⟩
theorem notNode_map (cs : Array Value) (fr : Nat × Nat) : NotNode (.cells cs 100 fr) := fun c f e => by cases e
/-- A map at place o of block m, which has the row L. -/
def IsM (W : World) (m o : Nat) (L : List (Int × Int)) : Prop :=
  ∃ p t cs, W.heap[m]? = some (.cells cs 100 (0, 0)) ∧ cs[o]? = some (.pointer p) ∧ IsT (fun _ => True) W p t ∧ t.list = L ∧ Srt ltI L
theorem IsM.lt {W : World} {m o : Nat} {L : List (Int × Int)} (h : IsM W m o L) : m < W.heap.size := by obtain ⟨p, t, cs, h1, _⟩ := h; exact heap_lt h1
theorem IsM.srt {W : World} {m o : Nat} {L : List (Int × Int)} (h : IsM W m o L) : Srt ltI L := by obtain ⟨p, t, cs, h1, h2, h3, h4, h5⟩ := h; exact h5
theorem IsM.turned {R : Nat → Prop} {W W' : World} {m o : Nat} {L : List (Int × Int)} (h : IsM W m o L) (ht : Turned R W W') (hm : ¬ R m) (hn : ∀ c, R c → ∀ o, W.heap[c]? = some o → NotNode o) : IsM W' m o L := by
  obtain ⟨p, t, cs, h1, h2, h3, h4, h5⟩ := h
  exact ⟨p, t, cs, ht.old h1 hm, h2, h3.spared ht hn, h4, h5⟩
theorem IsM.below {W W' : World} {m o : Nat} {L : List (Int × Int)} (h : IsM W m o L) (hb : Below W.heap.size W W') : IsM W' m o L := h.turned (turned_of_below hb) id (fun _ h => h.elim)
theorem IsM.calm {W W' : World} {m o : Nat} {L : List (Int × Int)} (h : IsM W m o L) (ht : Turned (fun _ => False) W W') : IsM W' m o L := h.turned ht id (fun _ h => h.elim)
theorem below_of_turned {W W' : World} (h : Turned (fun _ => False) W W') : Below W.heap.size W W' := ⟨h.os, h.tape, h.output, h.size, fun k hk => h.block k hk id⟩

theorem mlen_any {w : World} {m o : Nat} {L : List (Int × Int)} (h : IsM w m o L) : Calls Try.prog 78 #[.pointer (some ⟨m, o, none⟩)] w fun e w' => e = .returned (.int .i64 (L.length : Int)) ∧ w = w' := by
  obtain ⟨p, t, cs, h1, h2, h3, rfl, h5⟩ := h
  have hc : w.cell? ⟨m, o, none⟩ = some (.pointer p) := heap_cell h1 h2
  have HC := Lib.hid (count_any h3)
  rw [T.list_length]
  clear h1 h2 h3 h5
  go_enter Try.func78, Try.ntmps78
  go_wp2_with (go_at_call 87; refine HC.out.mono ?_; rintro e w' ⟨rfl, rfl⟩)
  go_ret
  exact ⟨rfl, rfl⟩
theorem mrank_any {w : World} {m o : Nat} {L : List (Int × Int)} (k : Int) (h : IsM w m o L) (hs : L.length ≤ 900000) : Calls Try.prog 82 #[.pointer (some ⟨m, o, none⟩), .int .i64 k] w fun e w' => e = .returned (.int .i64 (rk ltI k L : Int)) ∧ w = w' := by
  obtain ⟨p, t, cs, h1, h2, h3, rfl, h5⟩ := h
  have hc : w.cell? ⟨m, o, none⟩ = some (.pointer p) := heap_cell h1 h2
  rw [T.list_length] at hs
  have HC := Lib.hid (rank_any k h3 h5 hs)
  clear h1 h2 h3 h5
  go_enter Try.func82, Try.ntmps82
  go_wp2_with (go_at_call 93; refine HC.out.mono ?_; rintro e w' ⟨rfl, rfl⟩)
  go_ret
  exact ⟨rfl, rfl⟩
/-- What Get hands back. -/
def getV (k : Int) (L : List (Int × Int)) : Int := (get ltI k L).getD 0
theorem mget_any {w : World} {m o : Nat} {L : List (Int × Int)} (k : Int) (h : IsM w m o L) : Calls Try.prog 77 #[.pointer (some ⟨m, o, none⟩), .int .i64 k] w fun e w' => e = .returned (.tuple #[.int .i64 (getV k L), .bool (get ltI k L).isSome]) ∧ Turned (fun _ => False) w w' := by
  obtain ⟨p, t, cs, h1, h2, h3, rfl, h5⟩ := h
  have hc : w.cell? ⟨m, o, none⟩ = some (.pointer p) := heap_cell h1 h2
  have HC := Lib.hid (find_any k h3 h5)
  clear h1 h2 h3 h5
  go_enter Try.func77, Try.ntmps77
  go_wp2_with fail
  refine HC.out.mono ?_
  rintro e w1 ⟨q, rfl, t1, hq⟩
  have T1 := Lib.hid t1
  clear t1 HC hc
  rcases hq with ⟨rfl, hg⟩ | ⟨b, v, s, pl, pr, rfl, hg, hr⟩
  · have HG := Lib.hid hg
    clear hg
    go_wp2_with fail
    refine (entry_nil _).mono ?_
    rintro e w' ⟨rfl, rfl⟩
    go_wp2
    go_ret2
    exact ⟨by rw [getV, HG.out]; rfl, T1.out⟩
  · have HG := Lib.hid hg
    have HR := Lib.hid hr
    clear hg hr
    go_wp2_with fail
    refine (entry_some HR.out).mono ?_
    rintro e w2 ⟨rfl, t2⟩
    have T2 := Lib.hid t2
    clear t2
    go_wp2
    go_ret2
    exact ⟨by rw [getV, HG.out]; rfl, T1.out.trans T2.out⟩
/-- Behind a store of a new root. -/
structure PutW (m o : Nat) (L : List (Int × Int)) (w w' : World) : Prop where
  map : IsM w' m o L
  turned : Turned (fun c => c = m) w w'
  rest : ∀ cs, w.heap[m]? = some (.cells cs 100 (0, 0)) → ∃ v, w'.heap[m]? = some (.cells (cs.setIfInBounds o v) 100 (0, 0))
theorem PutW.mk' {S : Nat → Prop} {m o : Nat} {L : List (Int × Int)} {w w2 : World} {p2 : Option Addr} {t2 : T Int Int} {cs : Array Value} {p : Option Addr} (h1 : w.heap[m]? = some (.cells cs 100 (0, 0))) (h2 : cs[o]? = some (.pointer p))
    (ht : Turned (fun _ => False) w w2) (hT : IsT S w2 p2 t2) (hl : t2.list = L) (hs : Srt ltI L) : PutW m o L w (w2.setCell ⟨m, o, none⟩ (.pointer p2)) := by
  have h3 := ht.old h1 id
  have h4 := Turned.set w2 m o (.pointer p2)
  have h5 : o < cs.size := (Array.getElem?_eq_some_iff.1 h2).1
  refine ⟨⟨p2, t2, _, heap_set h3 o _, ?_, ((hT.apart h3 (notNode_map _ _)).turned h4 (fun c _ hc e => hc e)).mono (fun _ _ _ => trivial), hl, hs⟩, (ht.weak (fun _ _ h => h.elim)).trans h4, fun cs' h' => ?_⟩
  · simp [h5]
  · rw [h1] at h'; cases h'; exact ⟨_, heap_set h3 o _⟩
theorem PutW.calm {m o : Nat} {L : List (Int × Int)} {w w' w'' : World} (h : PutW m o L w w') (ht : Turned (fun _ => False) w' w'') : PutW m o L w w'' :=
  ⟨h.map.calm ht, h.turned.trans (ht.weak (fun _ _ h => h.elim)), fun cs hc => by obtain ⟨v, hv⟩ := h.rest cs hc; exact ⟨v, ht.old hv id⟩⟩
def PutPost (m o : Nat) (v : Bool) (L : List (Int × Int)) (w : World) (e : Ending) (w' : World) : Prop := e = .returned (.bool v) ∧ PutW m o L w w'

theorem mput_any {w : World} {m o : Nat} {L : List (Int × Int)} (k v : Int) (h : IsM w m o L) (hs : L.length ≤ 500000) : Calls Try.prog 59 #[.pointer (some ⟨m, o, none⟩), .int .i64 k, .int .i64 v] w (PutPost m o (get ltI k L).isNone (ins ltI k v L) w) := by
  have HLn := Lib.hid (mlen_any h)
  have HSr := Lib.hid h.srt
  obtain ⟨p, t, cs, h1, h2, h3, h4, h5⟩ := h
  have hc : w.cell? ⟨m, o, none⟩ = some (.pointer p) := heap_cell h1 h2
  have hcn : t.count ≤ 600000 := by rw [← T.list_length, h4]; omega
  have HC := Lib.hid (with_any k v t h3 (by rw [h4]; exact h5) hcn)
  have H1 := Lib.hid h1
  have H2 := Lib.hid h2
  have H4 := Lib.hid h4
  have HD := Lib.hid (show decide (L.length < (ins ltI k v L).length) = (get ltI k L).isNone by rw [← ins_length_gt linI k v L h5]; exact decide_eq_decide.2 (by omega))
  have HLE := Lib.hid (ins_length_le (lt := ltI) k v L)
  clear h1 h2 h3 h4 h5 hcn
  go_enter Try.func59, Try.ntmps59
  go_wp2_with fail
  refine HLn.out.mono ?_
  rintro e w' ⟨rfl, rfl⟩
  go_wp2_with fail
  refine HC.out.mono ?_
  rintro e w2 ⟨p2, t2, rfl, h2, hl2, tu2⟩
  have hP : PutW m o (ins ltI k v L) w (w2.setCell ⟨m, o, none⟩ (.pointer p2)) := PutW.mk' H1.out H2.out tu2 h2 (by rw [hl2, H4.out]) (ins_srt linI k v L HSr.out)
  have hc2 : w2.cell? ⟨m, o, none⟩ = some (.pointer p) := heap_cell (tu2.old H1.out id) H2.out
  have hf2 : w2.frozen? ⟨m, o, none⟩ = false := heap_frozen (tu2.old H1.out id) _
  have HP := Lib.hid hP
  clear hP h2 hl2 tu2
  go_wp2_with fail
  have HLn2 := Lib.hid (mlen_any HP.out.map)
  revert HP HLn2
  generalize w2.setCell ⟨m, o, none⟩ (.pointer p2) = w3
  intro HP HLn2
  clear hc2 hf2
  refine HLn2.out.mono ?_
  rintro e w' ⟨rfl, rfl⟩
  go_wp2
  go_ret
  exact ⟨congrArg (fun b => Ending.returned (.bool b)) HD.out, HP.out⟩
end Go.Proofs.Ytjpgkocffceeoaa
