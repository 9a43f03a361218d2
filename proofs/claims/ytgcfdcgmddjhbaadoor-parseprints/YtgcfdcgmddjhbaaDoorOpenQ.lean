import Derived.Test.YtgcfdcgmddjhbaaDoorOpenP
import Derived.Test.YtgcfdcgmddjhbaaDoorRawsAt
import Derived.LaidMore
import Derived.Lib.OthersKept
import Derived.Lib.LaidTab
import Derived.Lib.ItoaNum
namespace Go.Proofs.YtgcfdcgmddjhbaaDoor
open Go.ChangeShapes Go.WideShapes Go.ChangeAt Go.WideMaps Go.WideElems Go.RowKit
set_option maxRecDepth 20000

abbrev laidAll6 : List (String × DataW Unit) := [("math/bits.deBruijn32tab", Rows.laid_math_bits_deBruijn32tab), ("math/bits.deBruijn64tab", Rows.laid_math_bits_deBruijn64tab), ("internal/strconv.uint64pow10", Rows.laid_internal_strconv_uint64pow10)]

theorem pow_laid {W : World} (h : laidMetH Tryd.prog laidAll6 W) : Lib.TabIs Tryd.prog W "internal/strconv.uint64pow10" .u64 Lib.pow10Tab := by
  rw [MakeChecks.laidMetH_plain _ _ _ (by kernel_rfl)] at h
  obtain ⟨ps, ⟨g1, t1, cs1, f1, p1, q1, _, _, _, _, ⟨g2, t2, cs2, f2, p2, q2, _, _, _, _, ⟨g3, t3, cs3, f3, p3, q3, hg3, ht3, hv3, hd3, _, _⟩, _⟩, _⟩, _, _⟩ := h
  obtain rfl := Option.some.inj ((show Tryd.prog.globalNamed "internal/strconv.uint64pow10" = some 1 by kernel_rfl).symm.trans hg3)
  obtain rfl := Option.some.inj ((show (Tryd.prog.globals[1]?).map (·.type) = some 89 by kernel_rfl).symm.trans ht3)
  unfold Lib.TabIs
  rw [hv3, ← Lib.cells_of_tab (zs := Lib.pow10Tab) (k := .u64) (show Tryd.prog.underlying 89 = some (.array 20 76) by kernel_rfl) (show Tryd.prog.underlying 76 = some (.int .u64) by kernel_rfl) (by kernel_rfl) (by kernel_rfl) hd3]
end Go.Proofs.YtgcfdcgmddjhbaaDoor
