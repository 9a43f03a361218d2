import Derived.Test.YtanmbaleadcfgaaDoorRows
import Derived.Test.YtanmbaleadcfgaaDoorProg
import Derived.ProofKit
import Derived.OpenShut
import Derived.Carry
namespace Go.Proofs.YtanmbaleadcfgaaDoor
open Go.ChangeShapes Go.WideShapes Go.ChangeAt Go.WideMaps Go.WideElems Go.RowKit

theorem ownK : ownKnob Tryd.prog.godebug = none := by kernel_rfl
theorem laidK : laidOutB Tryd.prog = true := by kernel_rfl
end Go.Proofs.YtanmbaleadcfgaaDoor
