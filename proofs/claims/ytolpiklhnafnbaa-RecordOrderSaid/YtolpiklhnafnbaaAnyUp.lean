/- A drawn region's invariant made stronger on the way. It speaks of no program. -/
import Derived.Test.YtolpiklhnafnbaaWords
import Derived.Deep.RegionHeld
import Derived.Deep.RegionHeld3
import Derived.Orders
namespace Go.Proofs.Ytolpiklhnafnbaa
set_option maxRecDepth 100000
open Go.RowKit

/-- What must hold behind every operation may be made stronger on the way. -/
theorem wpAnyH_up {P : Program} {md : Region.Mode} {ops : Array Oper} {Q : Exit → Act → World → Prop} {S S' : World → Prop} (himp : ∀ W, S' W → S W) :
    ∀ (fuel : Nat) (listed : Array Bool) (a : Act) (w : World), wpAnyH P md ops Q S' fuel listed a w → wpAnyH P md ops Q S fuel listed a w
  | 0, _, _, _, h => h
  | fuel + 1, _, _, _, h => ⟨h.1, fun i hi => wpOp_mono (fun _ _ h' => ⟨himp _ h'.1, wpAnyH_up himp fuel _ _ _ h'.2⟩) (h.2 i hi)⟩
end Go.Proofs.Ytolpiklhnafnbaa
