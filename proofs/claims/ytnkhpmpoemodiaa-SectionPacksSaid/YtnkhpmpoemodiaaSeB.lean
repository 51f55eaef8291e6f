/- Plain: a file of sections as bytes, and read. -/
import Derived.Test.YtnkhpmpoemodiaaSeA
import Derived.Test.YtnkhpmpoemodiaaBma
import Derived.Test.YtnkhpmpoemodiaaDe
set_option linter.unusedVariables false
set_option linter.unusedSimpArgs false
namespace Go.Proofs.Ytnkhpmpoemodiaa.Se
open Go.RowKit

def riseG : Int → List SecM → Bool
  | _, [] => true
  | a, x :: xs => decide (a < x.tag) && riseG x.tag xs
def riseB (L : List SecM) : Bool := riseG (-1) L
theorem riseG_append (L : List SecM) (x : SecM) : ∀ a, riseG a (L ++ [x]) = (riseG a L && decide ((L.getLastD ⟨a, []⟩).tag < x.tag)) := by
  induction L with
  | nil => intro a; simp [riseG]
  | cons y ys ih =>
    intro a
    simp only [List.cons_append, riseG, ih, List.getLastD_cons, Bool.and_assoc]
    cases ys with
    | nil => rfl
    | cons z zs => simp [List.getLastD]; rfl
def sumB (zs : List Int) : Int := (moreF usual 0 zs : Nat)
def headI (x : SecM) : List Int := x.tag :: (putF x.body.length ++ fixF (sumB x.body))
def signI : List Int := [83, 65, 78, 68]
def innerI (L : List SecM) : List Int := signI ++ (putF L.length ++ (L.flatMap headI ++ L.flatMap (·.body)))
def packE (L : List SecM) : Nat := if 255 < L.length then 3 else if riseB L then 0 else 46
def packI (L : List SecM) : List Int := if packE L = 0 then sealI (innerI L) else []

/-! ### reading -/
def cMax : Nat := 9223372036854775807
def rcnt (zs : List Int) (m : Nat) (s : RS) : RS × Nat := (rstep (rbnd zs m s).1 (rbnd zs m s).2.2, (rbnd zs m s).2.1)
structure HeadM where
  tag : Int
  size : Nat
  sum : Int
def rdTag (zs : List Int) (s : RS) : RS × Int := ((rtake zs 0 1 s).1, (rtake zs 0 1 s).2.getD 0 0)
def rdHead (zs : List Int) (s : RS) : RS × HeadM :=
  ((rfixed zs (rcnt zs cMax (rdTag zs s).1).1).1, ⟨(rdTag zs s).2, (rcnt zs cMax (rdTag zs s).1).2, (rfixed zs (rcnt zs cMax (rdTag zs s).1).1).2⟩)
def rdHeads (zs : List Int) : Nat → RS → RS × List HeadM
  | 0, s => (s, [])
  | n + 1, s => ((rdHead zs (rdHeads zs n s).1).1, (rdHeads zs n s).2 ++ [(rdHead zs (rdHeads zs n s).1).2])
def bstep (zs : List Int) (r : RS × List SecM × Bool) (h : HeadM) : RS × List SecM × Bool :=
  ((rtake zs 0 h.size r.1).1, r.2.1 ++ [⟨h.tag, (rtake zs 0 h.size r.1).2⟩], r.2.2 && decide (sumB (rtake zs 0 h.size r.1).2 = h.sum))
def rdBodies (zs : List Int) (hs : List HeadM) (s : RS) : RS × List SecM × Bool := hs.foldl (bstep zs) (s, [], true)
def rdAll (zs : List Int) (s : RS) : RS × List SecM × Bool := rdBodies zs (rdHeads zs (rcnt zs 255 s).2 (rcnt zs 255 s).1).2 (rdHeads zs (rcnt zs 255 s).2 (rcnt zs 255 s).1).1
def okAll (zs : List Int) (r : RS × List SecM × Bool) : Bool := r.2.2 && riseB r.2.1 && decide ((rend zs r.1).e = 0)
def unpE (b : List Int) : Nat :=
  if unsealE b ≠ 0 then unsealE b else if (rtake (unsealB b) 0 4 ⟨0, 0, 0⟩).2 ≠ signI then 45
  else if okAll (unsealB b) (rdAll (unsealB b) (rtake (unsealB b) 0 4 ⟨0, 0, 0⟩).1) = true then 0 else 21
def unpL (b : List Int) : List SecM := if unpE b = 0 then (rdAll (unsealB b) (rtake (unsealB b) 0 4 ⟨0, 0, 0⟩).1).2.1 else []

theorem rdHeads_length (zs : List Int) (n : Nat) (s : RS) : (rdHeads zs n s).2.length = n := by
  induction n with
  | zero => rfl
  | succ n ih => simp [rdHeads, ih]
theorem sumB_bd (zs : List Int) : 0 ≤ sumB zs ∧ sumB zs ≤ 4294967295 := by
  have := moreF_lt usual 0 zs
  unfold sumB
  omega

/-! ### what is packed is unpacked -/
def headM (x : SecM) : HeadM := ⟨x.tag, x.body.length, sumB x.body⟩
theorem cnt_good (front back : List Int) (n m : Nat) (h : n ≤ m) (hm : m ≤ 9223372036854775807) : rcnt (front ++ (putF n ++ back)) m (s0 front.length) = (s0 (front.length + (putF n).length), n) := by
  unfold rcnt
  rw [bnd_good front back n m (by omega) (by omega)]
  rfl
theorem tag_good (front back : List Int) (t : Int) : rdTag (front ++ (t :: back)) (s0 front.length) = (s0 (front.length + 1), t) := by
  have := take_good front [t] back
  simp only [List.length_singleton, List.singleton_append] at this
  unfold rdTag
  rw [this]
  rfl
theorem head_good (front back : List Int) (x : SecM) (hx : x.body.length ≤ 60000) : rdHead (front ++ (headI x ++ back)) (s0 front.length) = (s0 (front.length + (headI x).length), headM x) := by
  have h1 := tag_good front (putF x.body.length ++ (fixF (sumB x.body) ++ back)) x.tag
  have h2 := cnt_good (front ++ [x.tag]) (fixF (sumB x.body) ++ back) x.body.length cMax (by unfold cMax; omega) (Nat.le_refl _)
  have h3 := fixed_good (front ++ [x.tag] ++ putF x.body.length) back (sumB x.body) (sumB_bd _).1 (sumB_bd _).2
  have e1 : front ++ (headI x ++ back) = front ++ (x.tag :: (putF x.body.length ++ (fixF (sumB x.body) ++ back))) := by simp [headI]
  have e2 : front ++ (headI x ++ back) = front ++ [x.tag] ++ (putF x.body.length ++ (fixF (sumB x.body) ++ back)) := by simp [headI]
  have e3 : front ++ (headI x ++ back) = front ++ [x.tag] ++ putF x.body.length ++ (fixF (sumB x.body) ++ back) := by simp [headI]
  rw [← e1] at h1
  rw [← e2] at h2
  rw [← e3] at h3
  simp only [List.length_append, List.length_singleton] at h2 h3
  unfold rdHead
  rw [h1, h2, h3]
  simp only [headM, headI, List.length_cons, List.length_append, fixF_length, Prod.mk.injEq, and_true]
  congr 1
  omega
theorem heads_good (L : List SecM) (front back : List Int) (hL : ∀ x ∈ L, x.body.length ≤ 60000) : ∀ k, k ≤ L.length → rdHeads (front ++ (L.flatMap headI ++ back)) k (s0 front.length) = (s0 (front.length + ((L.take k).flatMap headI).length), (L.take k).map headM) := by
  intro k
  induction k with
  | zero => intro _; rfl
  | succ k ih =>
    intro hk
    have hlt : k < L.length := by omega
    have ht : L.take (k + 1) = L.take k ++ [L[k]] := List.take_succ_eq_append_getElem hlt
    have hd : L = L.take k ++ (L[k] :: L.drop (k + 1)) := by rw [← List.drop_eq_getElem_cons hlt, List.take_append_drop]
    have hf : L.flatMap headI = (L.take k).flatMap headI ++ (headI L[k] ++ (L.drop (k + 1)).flatMap headI) := by
      have := congrArg (List.flatMap headI) hd
      rw [List.flatMap_append, List.flatMap_cons] at this
      exact this
    have e : front ++ (L.flatMap headI ++ back) = (front ++ (L.take k).flatMap headI) ++ (headI L[k] ++ ((L.drop (k + 1)).flatMap headI ++ back)) := by
      rw [hf]
      simp only [List.append_assoc]
    have h1 := head_good (front ++ (L.take k).flatMap headI) ((L.drop (k + 1)).flatMap headI ++ back) L[k] (hL _ (List.getElem_mem _))
    rw [← e] at h1
    simp only [List.length_append] at h1
    unfold rdHeads
    rw [ih (by omega)]
    simp only
    rw [h1, ht, List.flatMap_append, List.map_append, List.length_append]
    simp only [List.flatMap_cons, List.flatMap_nil, List.append_nil, List.map_cons, List.map_nil, Nat.add_assoc]
theorem bodies_good (L : List SecM) : ∀ (front back : List Int) (acc : List SecM), (L.map headM).foldl (bstep (front ++ (L.flatMap (·.body) ++ back))) (s0 front.length, acc, true) = (s0 (front.length + (L.flatMap (·.body)).length), acc ++ L, true) := by
  induction L with
  | nil => intro front back acc; simp
  | cons x xs ih =>
    intro front back acc
    have e : front ++ ((x :: xs).flatMap (·.body) ++ back) = (front ++ x.body) ++ (xs.flatMap (·.body) ++ back) := by simp [List.flatMap_cons]
    have e1 : front ++ ((x :: xs).flatMap (·.body) ++ back) = front ++ (x.body ++ (xs.flatMap (·.body) ++ back)) := by simp [List.flatMap_cons]
    have h1 := take_good front x.body (xs.flatMap (·.body) ++ back)
    rw [← e1] at h1
    have h2 := ih (front ++ x.body) back (acc ++ [x])
    rw [← e] at h2
    simp only [List.map_cons, List.foldl_cons]
    have h3 : bstep (front ++ ((x :: xs).flatMap (·.body) ++ back)) (s0 front.length, acc, true) (headM x) = (s0 (front.length + x.body.length), acc ++ [x], true) := by
      unfold bstep
      simp only [headM, h1]
      simp
    rw [h3]
    simp only [List.length_append] at h2
    rw [h2]
    simp [List.flatMap_cons, Nat.add_assoc]
theorem rend_good (zs : List Int) (n : Nat) (h : n = zs.length) : rend zs (s0 n) = s0 n := by
  unfold rend s0
  rw [if_neg (by simp only; omega)]
theorem inner_len (L : List SecM) (x : SecM) (hx : x ∈ L) : x.body.length ≤ (L.flatMap (·.body)).length := by
  induction L with
  | nil => cases hx
  | cons y ys ih =>
    rw [List.flatMap_cons, List.length_append]
    rcases List.mem_cons.1 hx with rfl | h
    · omega
    · have := ih h; omega
theorem all_good (L : List SecM) (h255 : L.length ≤ 255) (hL : ∀ x ∈ L, x.body.length ≤ 60000) : rdAll (innerI L) (s0 4) = (s0 (innerI L).length, L, true) := by
  have h1 := cnt_good signI (L.flatMap headI ++ L.flatMap (·.body)) L.length 255 h255 (by omega)
  have h2 := heads_good L (signI ++ putF L.length) (L.flatMap (·.body)) hL L.length (Nat.le_refl _)
  have h3 := bodies_good L (signI ++ putF L.length ++ L.flatMap headI) [] []
  have e1 : signI ++ (putF L.length ++ (L.flatMap headI ++ L.flatMap (·.body))) = innerI L := rfl
  have e2 : signI ++ putF L.length ++ (L.flatMap headI ++ L.flatMap (·.body)) = innerI L := by simp [innerI]
  have e3 : signI ++ putF L.length ++ L.flatMap headI ++ (L.flatMap (·.body) ++ []) = innerI L := by simp [innerI]
  rw [e1] at h1
  rw [e2, List.take_length] at h2
  rw [e3] at h3
  simp only [List.length_append, List.nil_append] at h2 h3
  have h4 : (signI).length = 4 := rfl
  rw [h4] at h1 h2 h3
  unfold rdAll rdBodies
  rw [h1]
  simp only
  rw [h2]
  simp only
  rw [h3]
  simp only [innerI, List.length_append, h4, Prod.mk.injEq, and_true]
  congr 1
  omega
theorem unseal_seal (zs : List Int) : unsealE (sealI zs) = 0 ∧ unsealB (sealI zs) = zs := by
  have hl := sealI_length zs
  have hd : (sealI zs).length - 4 = zs.length := by omega
  have ht : (sealI zs).take zs.length = zs := by unfold sealI; simp
  have hdr : (sealI zs).drop zs.length = fixF (moreF usual 0 zs : Nat) := by unfold sealI; simp
  have hb := sumB_bd zs
  have h0 : unsealE (sealI zs) = 0 := by
    unfold unsealE
    rw [if_neg (by omega), hd, ht, hdr, if_pos]
    exact word_fix _ hb.1 hb.2
  exact ⟨h0, by unfold unsealB; rw [if_pos h0, hd, ht]⟩
theorem pack_back (L : List SecM) (h : packE L = 0) (hL : ∀ x ∈ L, x.body.length ≤ 60000) : unpE (packI L) = 0 ∧ unpL (packI L) = L := by
  have h255 : L.length ≤ 255 ∧ riseB L = true := by
    unfold packE at h
    split at h
    · simp at h
    · split at h
      · exact ⟨by omega, ‹_›⟩
      · simp at h
  have hu := unseal_seal (innerI L)
  have hp : packI L = sealI (innerI L) := by unfold packI; rw [if_pos h]
  have ht := take_good [] signI (putF L.length ++ (L.flatMap headI ++ L.flatMap (·.body)))
  have ht2 : rtake (innerI L) 0 4 ⟨0, 0, 0⟩ = (s0 4, signI) := ht
  have ha := all_good L h255.1 hL
  have h0 : unpE (packI L) = 0 := by
    unfold unpE
    rw [hp, hu.1, hu.2, if_neg (by simp), ht2, if_neg (by simp), if_pos]
    rw [ha]
    unfold okAll
    rw [rend_good _ _ rfl]
    simp [h255.2, s0]
  refine ⟨h0, ?_⟩
  unfold unpL
  rw [if_pos h0, hp, hu.2, ht2, ha]
end Go.Proofs.Ytnkhpmpoemodiaa.Se
