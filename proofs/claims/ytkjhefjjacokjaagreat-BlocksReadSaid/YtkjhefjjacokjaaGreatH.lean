/-
  A law on regions that draw their order: what is held of the world may be made stronger on the way. Conditions: none. Nothing of the program stands here.
-/
import Derived.Deep.RegionHeld3
namespace Go.Proofs.YtkjhefjjacokjaaGreat

/-- What is held may be made stronger on the way: 'every world that meets the stronger condition' is asked less. -/
theorem wpAnyH_more {P : Program} {md : Region.Mode} {ops : Array Oper} {Q : Exit → Act → World → Prop} {S S' : World → Prop} (hS : ∀ w, S' w → S w) :
    ∀ (fuel : Nat) (listed : Array Bool) (a : Act) (w : World), wpAnyH P md ops Q S' fuel listed a w → wpAnyH P md ops Q S fuel listed a w
  | 0, _, _, _, h => h
  | fuel + 1, _, _, _, h => ⟨h.1, fun i hi => wpOp_mono (fun a' w' h' => ⟨hS _ h'.1, wpAnyH_more hS fuel _ a' w' h'.2⟩) (h.2 i hi)⟩
end Go.Proofs.YtkjhefjjacokjaaGreat
