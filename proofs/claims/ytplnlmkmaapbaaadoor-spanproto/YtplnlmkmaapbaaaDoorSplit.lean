import Derived.Test.YtplnlmkmaapbaaaDoorTwo
namespace Go.Proofs.YtplnlmkmaapbaaaDoor
open Go Go.RowKit

/-- The end of a function whose results are two cubes in memory, and a plain one. -/
theorem retCCe {fn : Func} {R : Ending → World → Prop} {a : Act} {w : World} {p q u : Tmp} (hr : fn.results = #[.cell p 37, .cell q 37, .tmp u]) (hd : a.defers = []) (g g' : Nat) (hp : a.tmps.getD p undef = .pointer (some ⟨g, 0, none⟩)) (hq : a.tmps.getD q undef = .pointer (some ⟨g', 0, none⟩)) (V M V' M' : List Int) (hV : V.length = 13) (hM : M.length = 13) (hV' : V'.length = 13) (hM' : M'.length = 13)
    (hg : w.heap[g]? = some (.cells (cv V M) 37 (0, 0))) (hg' : w.heap[g']? = some (.cells (cv V' M') 37 (0, 0))) (v : Value) (hu : a.tmps.getD u undef = v) (h : R (.returned (.tuple #[.agg (cv V M), .agg (cv V' M'), v])) w) : bodyPost Tryd.prog fn R .ret a w := by
  refine bodyPost_ret (v := .tuple #[.agg (cv V M), .agg (cv V' M'), v]) ?_ hd h
  simp only [results, hr]
  have hp' : a.tmps[p]?.getD undef = .pointer (some ⟨g, 0, none⟩) := by simpa using hp
  have hq' : a.tmps[q]?.getD undef = .pointer (some ⟨g', 0, none⟩) := by simpa using hq
  have hu' : a.tmps[u]?.getD undef = v := by simpa using hu
  simp [Sem.run_bind, hp', hq', hu', asAddr, run_loadVar_row w g 37 37 (cv V M) (0, 0) _ hg Tryd.underlying37 rfl (sizeC V M hV hM), run_loadVar_row w g' 37 37 (cv V' M') (0, 0) _ hg' Tryd.underlying37 rfl (sizeC V' M' hV' hM')]

end Go.Proofs.YtplnlmkmaapbaaaDoor
