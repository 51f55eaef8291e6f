/- Plain: a model laid down. -/
import Derived.Test.YtjcmeacgfflfmaaGreatHj
import Derived.Test.YtjcmeacgfflfmaaGreatMow
import Derived.Test.YtjcmeacgfflfmaaGreatHeV
import Derived.Test.YtjcmeacgfflfmaaGreatHeL
import Derived.Test.YtjcmeacgfflfmaaGreatHeP
import Derived.Test.YtjcmeacgfflfmaaGreatHeE
set_option linter.unusedVariables false
set_option linter.unusedSectionVars false
namespace Go.Proofs.YtjcmeacgfflfmaaGreat.Hg
section
variable {X Y : Type} [Inhabited X] [Inhabited Y] {kx : Ord X} {ky : Ord Y} {f : X → Y}
theorem map_getD (hd : f default = default) (row : List X) (i : Nat) : (row.map f).getD i default = f (row.getD i default) := by
  rw [List.getD_eq_getElem?_getD, List.getD_eq_getElem?_getD, List.getElem?_map]
  cases row[i]? with
  | none => exact hd.symm
  | some x => rfl
theorem firstGo_map (hd : f default = default) (hf : ∀ a b, kx.lt a b = ky.lt (f a) (f b)) (row : List X) : ∀ i, firstGo ky (row.map f) i = firstGo kx row i
  | 0 => rfl
  | i + 1 => by
    unfold firstGo
    rw [firstGo_map hd hf row i, map_getD hd, map_getD hd, ← hf]
theorem first_map (hd : f default = default) (hf : ∀ a b, kx.lt a b = ky.lt (f a) (f b)) (row : List X) : first ky (row.map f) = first kx row := by
  unfold first
  rw [firstGo_map hd hf, List.length_map]
theorem outs_map (hd : f default = default) (hf : ∀ a b, kx.lt a b = ky.lt (f a) (f b)) : ∀ (n : Nat) (row : List X), outs ky n (row.map f) = (outs kx n row).map f
  | 0, row => rfl
  | n + 1, row => by
    unfold outs
    rw [List.length_map, first_map hd hf, map_getD hd]
    split
    · rfl
    · rw [List.map_cons, ← outs_map hd hf n, List.eraseIdx_eq_take_drop_succ, List.eraseIdx_eq_take_drop_succ, List.map_append, List.map_take, List.map_drop]
theorem srt_map (hd : f default = default) (hf : ∀ a b, kx.lt a b = ky.lt (f a) (f b)) (row : List X) : srt ky (row.map f) = (srt kx row).map f := by
  unfold srt
  rw [List.length_map]
  exact outs_map hd hf _ _
end
end Go.Proofs.YtjcmeacgfflfmaaGreat.Hg
namespace Go.Proofs.YtjcmeacgfflfmaaGreat.Hk
open Go.Proofs.YtjcmeacgfflfmaaGreat.Md
instance : Inhabited ProcM := ⟨⟨⟨#[]⟩, 0, [], []⟩⟩
def ordPM : Hg.Ord ProcM := byName (fun p => p.name)
def canP (p : ProcM) : ProcM := { p with vars := Hg.srt HeV.ord p.vars }
def canM (m : ModelM) : ModelM := ⟨m.ver, (Hg.srt ordPM m.procs).map canP, Hg.srt HeL.ord m.links, Hg.srt HeE.ord m.events⟩
theorem srt_procs (L : List ProcV) : (Hg.srt HeP.ord L).map (fun x => x.p) = Hg.srt ordPM (L.map (fun x => x.p)) := (Hg.srt_map (kx := HeP.ord) (ky := ordPM) (f := fun x : ProcV => x.p) rfl (fun _ _ => rfl) L).symm
theorem encP_can (q : ProcV) (va : Option Addr) (vb vc : Nat) : ∀ r u, (encP { q with p := canP q.p, va := va, vb := vb, vo := 0, vc := vc })[r]? = some u → (r = 2 ∧ u = .slice va q.p.vars.length vc) ∨ (r ≠ 2 ∧ (encP q)[r]? = some u) := by
  intro r u hu
  rcases r with _ | _ | _ | _ | r
  · exact .inr ⟨by decide, hu⟩
  · exact .inr ⟨by decide, hu⟩
  · refine .inl ⟨rfl, ?_⟩
    have : u = .slice va (Hg.srt HeV.ord q.p.vars).length vc := by simpa [encP, ProcV.vv, canP] using hu.symm
    rw [this, Hg.srt_length]
  · exact .inr ⟨by decide, hu⟩
  · simp [encP] at hu
end Go.Proofs.YtjcmeacgfflfmaaGreat.Hk
