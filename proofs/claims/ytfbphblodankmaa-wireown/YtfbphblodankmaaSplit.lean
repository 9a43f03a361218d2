import Derived.Test.YtfbphblodankmaaTwo
namespace Go.Proofs.Ytfbphblodankmaa
open Go Go.RowKit
set_option maxRecDepth 20000

/-- The end of a function whose results are two cubes in memory, and a plain one. -/
theorem retCCe {fn : Func} {R : Ending → World → Prop} {a : Act} {w : World} {p q u : Tmp} (hr : fn.results = #[.cell p 36, .cell q 36, .tmp u]) (hd : a.defers = []) (g g' : Nat) (hp : a.tmps.getD p undef = .pointer (some ⟨g, 0, none⟩)) (hq : a.tmps.getD q undef = .pointer (some ⟨g', 0, none⟩)) (V M V' M' : List Int) (hV : V.length = 13) (hM : M.length = 13) (hV' : V'.length = 13) (hM' : M'.length = 13)
    (hg : w.heap[g]? = some (.cells (cv V M) 36 (0, 0))) (hg' : w.heap[g']? = some (.cells (cv V' M') 36 (0, 0))) (v : Value) (hu : a.tmps.getD u undef = v) (h : R (.returned (.tuple #[.agg (cv V M), .agg (cv V' M'), v])) w) : bodyPost Try.prog fn R .ret a w := by
  refine bodyPost_ret (v := .tuple #[.agg (cv V M), .agg (cv V' M'), v]) ?_ hd h
  simp only [results, hr]
  have hp' : a.tmps[p]?.getD undef = .pointer (some ⟨g, 0, none⟩) := by simpa using hp
  have hq' : a.tmps[q]?.getD undef = .pointer (some ⟨g', 0, none⟩) := by simpa using hq
  have hu' : a.tmps[u]?.getD undef = v := by simpa using hu
  simp [Sem.run_bind, hp', hq', hu', asAddr, run_loadVar_row w g 36 36 (cv V M) (0, 0) _ hg Try.underlying36 rfl (sizeC V M hV hM), run_loadVar_row w g' 36 36 (cv V' M') (0, 0) _ hg' Try.underlying36 rfl (sizeC V' M' hV' hM')]

end Go.Proofs.Ytfbphblodankmaa
