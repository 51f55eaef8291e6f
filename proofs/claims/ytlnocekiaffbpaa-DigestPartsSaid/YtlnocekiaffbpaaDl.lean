/- Plain: sums part by part, and of rows turned by each other. -/
import Derived.Test.YtlnocekiaffbpaaDh
import Derived.Deep.OwnRows
set_option linter.unusedVariables false
namespace Go.Proofs.Ytlnocekiaffbpaa
open Go.RowKit

theorem crcI_append (p m : Nat) (l r : List Int) : crcI p m (l ++ r) = crcI p (crcI p m l) r := by
  unfold crcI bytesN
  rw [List.map_append, List.foldl_append]
theorem more_parts (p : Nat) (hp : p < 4294967296) (l r : List Int) : moreF p (moreF p 0 l) r = moreF p 0 (l ++ r) := by
  have h := crcI_lt hp (show 4294967295 - 0 < 4294967296 by decide) l
  unfold moreF
  rw [crcI_append, show 4294967295 - (4294967295 - crcI p (4294967295 - 0) l) = crcI p (4294967295 - 0) l by omega]
theorem more_nil (p : Nat) : moreF p 0 [] = 0 := by
  unfold moreF crcI bytesN
  simp
theorem runB_xor (p : BitVec 32) : ∀ (l m x : List Nat) (s d : BitVec 32), l.length = m.length → x = List.zipWith (fun a b => a ^^^ b) l m → runB p (s ^^^ d) x = runB p s l ^^^ runB p d m := by
  intro l
  induction l with
  | nil =>
    intro m x s d hl hx
    have : m = [] := List.eq_nil_of_length_eq_zero hl.symm
    subst this
    subst hx
    rfl
  | cons a l ih =>
    intro m x s d hl hx
    cases m with
    | nil => simp at hl
    | cons c m =>
      subst hx
      simp only [List.zipWith_cons_cons, runB, List.foldl_cons]
      have e : updB p (s ^^^ d) (a ^^^ c) = updB p s a ^^^ updB p d c := by
        unfold updB
        rw [BitVec.ofNat_xor, xor4, stps_xor]
      rw [e]
      exact ih m _ _ _ (by simpa using hl) rfl
def natsL (zs : List Int) : List Nat := zs.map Int.toNat
theorem more_bvP (p : Nat) (hp : p < 4294967296) (zs : List Int) (h : ∀ x ∈ zs, (Lit.int .u8 x).wf = true) : BitVec.ofNat 32 (moreF p 0 zs) = ~~~ runB (BitVec.ofNat 32 p) (BitVec.allOnes 32) (natsL zs) := by
  have hn : ∀ x : Nat, x < 4294967296 → BitVec.ofNat 32 (4294967295 - x) = ~~~ BitVec.ofNat 32 x := fun x h => by
    apply BitVec.eq_of_toNat_eq
    rw [BitVec.toNat_not, BitVec.toNat_ofNat, BitVec.toNat_ofNat, Nat.mod_eq_of_lt (by omega), Nat.mod_eq_of_lt (by omega)]
  have hlt : ∀ c ∈ natsL zs, c < 256 := by
    intro c hc
    unfold natsL at hc
    obtain ⟨x, hx, rfl⟩ := List.mem_map.1 hc
    have := bounds_u8 (h x hx)
    omega
  unfold moreF crcI
  rw [hn _ (bytesN_lt hp _ _ (by decide))]
  congr 1
  exact bytesN_bv hp (natsL zs) 4294967295 (by decide) hlt
theorem zip_zero : ∀ (l : List Nat) (n : Nat), n = l.length → List.zipWith (fun a b => a ^^^ b) l (List.replicate n 0) = l := by
  intro l
  induction l with
  | nil => intro n hn; simp
  | cons a l ih =>
    intro n hn
    subst hn
    rw [List.length_cons, List.replicate_succ, List.zipWith_cons_cons, ih l.length rfl, Nat.xor_zero]
/-- The sum of rows turned by each other. -/
theorem more_mixed (p : Nat) (hp : p < 4294967296) (l m x : List Int) (hl : ∀ c ∈ l, (Lit.int .u8 c).wf = true) (hm : ∀ c ∈ m, (Lit.int .u8 c).wf = true) (hx : ∀ c ∈ x, (Lit.int .u8 c).wf = true) (hlen : l.length = m.length)
    (hxe : natsL x = List.zipWith (fun a b => a ^^^ b) (natsL l) (natsL m)) :
    (moreF p 0 l ^^^ moreF p 0 m) ^^^ moreF p 0 (List.replicate l.length 0) = moreF p 0 x := by
  have hz : ∀ c ∈ List.replicate l.length (0 : Int), (Lit.int .u8 c).wf = true := fun c hc => by rw [(List.mem_replicate.1 hc).2]; decide
  apply nat_of_bv (Nat.xor_lt_two_pow (n := 32) (Nat.xor_lt_two_pow (n := 32) (moreF_lt _ _ _) (moreF_lt _ _ _)) (moreF_lt _ _ _)) (moreF_lt _ _ _)
  rw [BitVec.ofNat_xor, BitVec.ofNat_xor, more_bvP p hp l hl, more_bvP p hp m hm, more_bvP p hp x hx, more_bvP p hp _ hz]
  have h1 : natsL (List.replicate l.length (0 : Int)) = List.replicate l.length 0 := by unfold natsL; rw [List.map_replicate]; rfl
  have hll : (natsL l).length = l.length := List.length_map ..
  have hml : (natsL m).length = m.length := List.length_map ..
  have hxl : (natsL x).length = l.length := by rw [hxe, List.length_zipWith, hll, hml]; omega
  rw [h1]
  have e1 := runB_xor (BitVec.ofNat 32 p) (natsL x) (List.replicate l.length 0) (natsL x) (BitVec.allOnes 32 ^^^ BitVec.allOnes 32) (BitVec.allOnes 32) (by rw [hxl, List.length_replicate]) (zip_zero _ _ hxl.symm).symm
  have e2 := runB_xor (BitVec.ofNat 32 p) (natsL l) (natsL m) (natsL x) (BitVec.allOnes 32) (BitVec.allOnes 32) (by rw [hll, hml, hlen]) hxe
  rw [e2, BitVec.xor_self, BitVec.zero_xor] at e1
  rw [e1]
  generalize runB (BitVec.ofNat 32 p) (BitVec.allOnes 32) (natsL l) = A
  generalize runB (BitVec.ofNat 32 p) (BitVec.allOnes 32) (natsL m) = B
  generalize runB (BitVec.ofNat 32 p) (BitVec.allOnes 32) (List.replicate l.length 0) = Z
  apply BitVec.eq_of_getLsbD_eq
  intro i hi
  simp only [BitVec.getLsbD_xor, BitVec.getLsbD_not, hi, decide_true, Bool.true_and]
  cases A.getLsbD i <;> cases B.getLsbD i <;> cases Z.getLsbD i <;> rfl
end Go.Proofs.Ytlnocekiaffbpaa
