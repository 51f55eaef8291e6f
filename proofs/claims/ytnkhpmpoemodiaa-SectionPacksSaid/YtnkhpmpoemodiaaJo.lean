/- Contracts of the reference: bytes one behind the other; four bytes; a text; what is held. -/
import Derived.Test.YtnkhpmpoemodiaaRp
import Derived.Test.YtnkhpmpoemodiaaHp
import Derived.Test.YtnkhpmpoemodiaaVn
import Derived.Test.YtnkhpmpoemodiaaWc
set_option linter.unusedVariables false
namespace Go.Proofs.Ytnkhpmpoemodiaa
open Go.RowKit

/-- Bytes in memory: where, and what. -/
structure Pc where
  a : Option Addr
  cap : Nat
  b : Nat
  off : Nat
  zs : List Int
def PcAt (w : World) (p : Pc) : Prop := IntsAt .u8 w.heap.size w p.a p.b p.off p.zs.length p.zs ∧ (p.a = none → p.zs.length = 0 ∧ p.cap = 0) ∧ p.zs.length ≤ p.cap
set_option maxRecDepth 100000 in
theorem join_anyC (w : World) (g n c : Nat) (ps : List Pc) (hn : ps.length = n) (hcell : ∀ i p, ps[i]? = some p → w.cell? ⟨g, i, none⟩ = some (.slice p.a p.zs.length p.cap) ∧ PcAt w p) (hg : g < w.heap.size) (hn2 : n ≤ 2000) (hsz : ∀ p ∈ ps, p.zs.length ≤ 100000) :
    Calls Try.prog 53 #[.slice (some ⟨g, 0, none⟩) n c] w (BytesPost w (ps.flatMap Pc.zs)) := by
  have HN := Lib.hid hn
  have HC := Lib.hid hcell
  have HSZ := Lib.hid hsz
  obtain ⟨i0, hi, hz0, hz1, hz2⟩ := info_parts Try.infoU8
  have HI := Lib.hid hi
  have HZ0 := Lib.hid hz0
  have HZ1 := Lib.hid hz1
  have HZ2 := Lib.hid hz2
  clear hi hz0 hz1 hz2 hn hcell hsz
  have HMADE : Hid ((w.alloc (.cells #[] 5)).ownsRow w.heap.size 5 1 (.slice (some ⟨w.heap.size, 0, none⟩) 0 0) 0 []) := Lib.hid (World.ownsRow_made w #[] 0 (Nat.le_refl _) (Nat.zero_le _) rfl)
  go_enter Try.func53, Try.ntmps53
  go_wp2
  go_loopw [3, 4] (fun v i wr => ∃ (vv : Value) (k : Nat) (done : List Int), vv = v ∧ k ≤ n ∧ i = .int .i64 k ∧ Hid (done = (ps.take k).flatMap Pc.zs) ∧ Hid (wr.ownsRow w.heap.size 5 1 vv done.length (ivals .u8 done)) ∧ Below w.heap.size w wr) (fun _ i _ => n - (intOf i).toNat)
  case atStart => exact ⟨_, 0, [], rfl, Nat.zero_le _, rfl, Lib.hid rfl, HMADE, (Below.refl _ _).alloc (Nat.le_refl _) _⟩
  case round =>
    obtain ⟨vv, k, done, rfl, hk, rfl, hd, hown, hB⟩ := hrel
    by_cases hlt : k < n
    · obtain ⟨p, hp⟩ : ∃ p, ps[k]? = some p := ⟨_, List.getElem?_eq_getElem (by rw [HN.out]; exact hlt)⟩
      obtain ⟨hcp, hI, hnil, hcap⟩ := HC.out k p hp
      have hcp2 := (hB.cell (p := ⟨g, k, none⟩) hg).trans hcp
      have hpl := HSZ.out p (List.mem_of_getElem? hp)
      have hdl : done.length ≤ 100000 * k := by
        rw [hd.out]
        have h1 : ∀ l : List Pc, (∀ x ∈ l, x.zs.length ≤ 100000) → (l.flatMap Pc.zs).length ≤ 100000 * l.length := by
          intro l
          induction l with
          | nil => intro _; simp
          | cons a l ih =>
            intro h
            have h1 := h a (by simp)
            have h2 := ih (fun x hx => h x (by simp [hx]))
            rw [List.flatMap_cons, List.length_append, List.length_cons, Nat.mul_succ]
            omega
        have h2 := h1 (ps.take k) (fun x hx => HSZ.out x (List.mem_of_mem_take hx))
        rw [List.length_take] at h2
        omega
      have hbase := hB.size
      have HD2 : Hid ((done ++ p.zs) = (ps.take (k + 1)).flatMap Pc.zs) := Lib.hid (by
        obtain ⟨hk', hx⟩ := List.getElem?_eq_some_iff.1 hp
        rw [List.take_succ_eq_append_getElem hk', List.flatMap_append, hx, hd.out]
        simp)
      have HIp := Lib.hid (And.intro hI hnil)
      obtain ⟨pa, pcap, pb, po, pz⟩ := p
      simp only at hcp2 hpl hcap
      obtain ⟨pl, hpzl⟩ : ∃ pl, pz.length = pl := ⟨_, rfl⟩
      have HI2 : Hid (IntsAt .u8 w.heap.size w pa pb po pl pz ∧ (pa = none → pl = 0 ∧ pcap = 0) ∧ pz.length = pl) := Lib.hid (by
        refine ⟨?_, ?_, hpzl⟩
        · rw [← hpzl]; exact HIp.out.1
        · rw [← hpzl]; exact HIp.out.2)
      rw [hpzl] at hcp2 hpl hcap
      clear hp hcp hI hnil hpzl HIp
      obtain ⟨dl, hdl2⟩ : ∃ dl, done.length = dl := ⟨_, rfl⟩
      have HDL := Lib.hid hdl2
      have HOWN : Hid (wr.ownsRow w.heap.size 5 1 vv dl (ivals .u8 done)) := Lib.hid (by rw [← hdl2]; exact hown.out)
      rw [hdl2] at hdl
      clear hdl2 hown
      go_wp2_with (at_builtin; refine wpList_append_ints _ rfl _ _ 45 rfl w.heap.size 5 i0 (.int .u8 0) 1 Try.underlying45 HI.out HZ0.out HZ1.out HZ2.out rfl vv dl _ rfl HOWN.out .u8 w.heap.size w.heap.size w pa pb po pl pcap pz rfl HI2.out.2.1 HI2.out.1 hB (Nat.le_refl _) (by unfold maxLen; omega) (by omega) hbase ?_; intro v' w3 hown3 hbel)
      go_roundw
      case rel =>
        refine ⟨_, k + 1, done ++ pz, rfl, by omega, by go_num, HD2, Lib.hid ?_, hB.trans hbel⟩
        rw [List.length_append, HDL.out, HI2.out.2.2, ivals_append]
        exact hown3
      case measure => simp [intOf]; omega
    · obtain rfl : k = n := by omega
      have HE : Hid (BytesPost w (ps.flatMap Pc.zs) (.returned vv) wr) := Lib.hid (by
        have e : done = ps.flatMap Pc.zs := by rw [hd.out, List.take_of_length_le (by rw [HN.out]; exact Nat.le_refl _)]
        rw [← e]
        exact ⟨vv, rfl, .inr hown.out, hB⟩)
      clear hd hown hB
      go_wp2
      go_ret
      exact HE.out
theorem join_any (w : World) (g n : Nat) (ps : List Pc) (hn : ps.length = n) (hcell : ∀ i p, ps[i]? = some p → w.cell? ⟨g, i, none⟩ = some (.slice p.a p.zs.length p.cap) ∧ PcAt w p) (hg : g < w.heap.size) (hn2 : n ≤ 1000) (hsz : ∀ p ∈ ps, p.zs.length ≤ 100000) :
    Calls Try.prog 53 #[.slice (some ⟨g, 0, none⟩) n n] w (BytesPost w (ps.flatMap Pc.zs)) := join_anyC w g n n ps hn hcell hg (by omega) hsz
theorem PcAt.kept {w w' : World} {p : Pc} (h : PcAt w p) (hb : Below w.heap.size w w') : PcAt w' p := ⟨(h.1.kept hb (Nat.le_refl _)).mono hb.size, h.2.1, h.2.2⟩
theorem join2_any (w : World) (g pl ql : Nat) (p q : Pc) (hp : PcAt w p) (hq : PcAt w q) (hpl : p.zs.length = pl) (hql : q.zs.length = ql) (hg : g = w.heap.size) (hp1 : pl ≤ 100000) (hq1 : ql ≤ 100000) :
    Calls Try.prog 53 #[.slice (some ⟨g, 0, none⟩) 2 2] (w.alloc (.cells #[.slice p.a pl p.cap, .slice q.a ql q.cap] 45)) (BytesPost w (p.zs ++ q.zs)) := by
  have hb : Below w.heap.size w (w.alloc (.cells #[.slice p.a pl p.cap, .slice q.a ql q.cap] 45)) := (Below.refl _ _).alloc (Nat.le_refl _) _
  have hnew := heap_new (w := w) (.cells #[.slice p.a pl p.cap, .slice q.a ql q.cap] 45) hg
  have hj := join_any _ g 2 [p, q] rfl (fun i x hx => by
    match i, hx with
    | 0, hx => cases hx; exact ⟨heap_cell hnew (by rw [hpl]; rfl), hp.kept hb⟩
    | 1, hx => cases hx; exact ⟨heap_cell hnew (by rw [hql]; rfl), hq.kept hb⟩) (heap_lt hnew) (by decide) (fun x hx => by simp at hx; rcases hx with rfl | rfl <;> omega)
  refine hj.mono ?_
  rintro e w' ⟨v, he, hgv, hbv⟩
  have e1 : [p, q].flatMap Pc.zs = p.zs ++ q.zs := by simp
  rw [e1] at hgv
  exact ⟨v, he, gath_base hgv hb.size, hb.trans (hbv.mono hb.size)⟩
end Go.Proofs.Ytnkhpmpoemodiaa
