import Derived.Test.YtplnlmkmaapbaaaDoorMinusMath
import Derived.Maps.AppendAt
import Derived.OwnWalk
namespace Go.Proofs.YtplnlmkmaapbaaaDoor
open Go Go.RowKit

theorem own_setRow_ne {w : World} {B : Nat} {e : TypeId} {s : Nat} {v : Value} {n : Nat} {xs : List Value} (h : w.ownsRow B e s v n xs) (g : Nat) (hg : v.ownBlock ≠ some g) (cs : Array Value) : (w.setRow g cs).ownsRow B e s v n xs := by
  obtain ⟨h1, h2 | ⟨g', cap, cur, rfl, hB, hcur, h3⟩⟩ := h
  · exact ⟨h1, .inl h2⟩
  · exact ⟨h1, .inr ⟨g', cap, cur, rfl, hB, (setRow_other _ _ _ _ (fun e => hg (by rw [e]; rfl))).trans hcur, h3⟩⟩

end Go.Proofs.YtplnlmkmaapbaaaDoor
