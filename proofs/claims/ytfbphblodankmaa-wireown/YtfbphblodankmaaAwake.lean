import Derived.Test.YtfbphblodankmaaMinus
namespace Go.Proofs.Ytfbphblodankmaa
open Go Go.RowKit
set_option maxRecDepth 20000

/-- A cube that lies within a block, from a place on. -/
theorem load_cube (w : World) (g off : Nat) (cs : Array Value) (t : TypeId) (fr : Nat × Nat) (V M : List Int) (hV : V.length = 13) (hM : M.length = 13) (hg : w.heap[g]? = some (.cells cs t fr)) (hc : ∀ j, j < 26 → cs[off + j]? = (cv V M)[j]?) :
    (loadVar 36 ⟨g, off, none⟩).run Try.prog w = .ok (.agg (cv V M)) w := by
  have hsz := cv_size V M hV hM
  have hl : (loadCells ⟨g, off, none⟩ (cv V M).toList.length).run Try.prog w = .ok (cv V M).toList.toArray w :=
    run_loadCells_list (P := Try.prog) w ⟨g, off, none⟩ (cv V M).toList (fun j v hv => by
      have hadd : (⟨g, off, none⟩ : Addr).add j = ⟨g, off + j, none⟩ := by unfold Addr.add; split <;> simp_all
      have hj : j < 26 := by
        have := (List.getElem?_eq_some_iff.1 hv).1
        simpa [hsz] using this
      rw [hadd, cell_of_row w g (off + j) cs t fr hg, hc j hj]
      simpa using hv)
  obtain ⟨i, hq, _, hs, _⟩ := infoC
  have hagg : (isAgg 36).run Try.prog w = .ok true w := by
    unfold isAgg
    rw [Sem.run_bind, run_underlying Try.underlying36 w]
    rfl
  rw [Array.length_toList, hsz, Array.toArray_toList] at hl
  simp [loadVar, Sem.run_bind, hagg, sizeOf, typeInfo, hq, hs, hl]
theorem wl_loadCat {ops : Array Oper} {rest : List Oper} {o : Oper} {a : Act} {w : World} {Q : Exit → Act → World → Prop} (hw : Region.wanted o (yielded ops a.tmps) = true) (x : Operand) (ho : o.op = .load 36 x)
    (g off : Nat) (hx : a.eval x = .pointer (some ⟨g, off, none⟩)) (cs : Array Value) (t : TypeId) (fr : Nat × Nat) (V M : List Int) (hV : V.length = 13) (hM : M.length = 13) (hg : w.heap[g]? = some (.cells cs t fr)) (hc : ∀ j, j < 26 → cs[off + j]? = (cv V M)[j]?)
    (h : wpList Try.prog ops Q rest (a.put o.dst (.agg (cv V M))) w) : wpList Try.prog ops Q (o :: rest) a w := by
  refine wpList_step fun K hK => ?_
  rw [if_pos hw]
  unfold Oper.wp execOp
  simp only [ho, hx, Instr.loadAt, Instr.sureAddr, Sem.run_bind, Sem.run_pure, Result.andThen_ok, load_cube w g off cs t fr V M hV hM hg hc]
  exact hK _ _ h

def m128 : List Int := [128, 0, 0, 0, 0, 0, 0, 0, 0, 0, 0, 0, 0]
def m64 : List Int := [64, 0, 0, 0, 0, 0, 0, 0, 0, 0, 0, 0, 0]
def m192 : List Int := [192, 0, 0, 0, 0, 0, 0, 0, 0, 0, 0, 0, 0]
def m0 : List Int := [0, 0, 0, 0, 0, 0, 0, 0, 0, 0, 0, 0, 0]
theorem Z_m0 : Z = m0 := Z_eq
theorem byt_of (L : List Int) (h1 : L.length = 13) (h2 : ∀ x ∈ L, 0 ≤ x ∧ x < 256) : Byt L := by
  refine ⟨h1, fun k => ?_⟩
  rcases Nat.lt_or_ge k 13 with h | h
  · rw [List.getD, List.getElem?_eq_getElem (by omega)]; exact h2 _ (List.getElem_mem _)
  · rw [List.getD, List.getElem?_eq_none (by omega)]; decide
theorem b128 : Byt m128 := byt_of _ rfl (by decide)
theorem b64 : Byt m64 := byt_of _ rfl (by decide)
theorem b192 : Byt m192 := byt_of _ rfl (by decide)
theorem b0 : Byt m0 := byt_of _ rfl (by decide)

theorem ex1 : fixV m0 m0 0 false = m0 := by kernel_rfl
theorem ex2 : fixM m0 0 = m128 := by kernel_rfl
theorem ex3 : fixV m0 m0 1 true = m64 := by kernel_rfl
theorem ex4 : fixM m0 1 = m64 := by kernel_rfl
theorem ex5 : meets m0 m128 m64 m64 = true := by kernel_rfl
theorem ex6 : meetV m0 m128 m64 m64 = m64 := by kernel_rfl
theorem ex7 : meetM m128 m64 = m192 := by kernel_rfl
theorem ex8 : bt m128 0 = true := by kernel_rfl
theorem ex9 : meets m0 m0 m64 m192 = true := by kernel_rfl
theorem ex10 : meetV m0 m0 m64 m192 = m64 := by kernel_rfl
theorem ex11 : meetM m0 m192 = m192 := by kernel_rfl
theorem ex12 : can m0 m0 = m0 := by kernel_rfl
theorem ex13 : fixV m0 m0 0 true = m128 := by kernel_rfl
theorem ex14 : fixV m0 m128 1 false = m0 := by kernel_rfl
theorem ex15 : fixV m0 m128 1 true = m64 := by kernel_rfl
theorem ex16 : fixM m128 1 = m192 := by kernel_rfl
theorem ex17 : minusC m0 m0 m64 m192 = [(m128, m128), (m0, m192)] := by
  rw [minusC_yes _ _ _ _ ex9, ex10, ex11, ex12, mGo_cut _ _ _ _ _ _ (by kernel_rfl) (by kernel_rfl) (by kernel_rfl), show bt m64 0 = false by kernel_rfl, Bool.not_false, ex13, ex2, ex1, mGo_cut _ _ _ _ _ _ (by kernel_rfl) (by kernel_rfl) (by kernel_rfl), show bt m64 (0 + 1) = true by kernel_rfl, Bool.not_true, ex14, ex15, ex16, mGo_stop _ _ _ _ _ _ (by kernel_rfl)]
theorem ex18 : free m0 = 104 := by kernel_rfl
theorem ex19 : (txt m64 m192).take 3 = [48, 49, 42] := by kernel_rfl
theorem ex20 : (txt m0 m192).take 3 = [48, 48, 42] := by kernel_rfl
theorem txt_length (V M : List Int) : (txt V M).length = 104 := by simp [txt]

theorem take3 (T : List UInt8) : ((⟨T.toArray⟩ : ByteArray).extract 0 3).toList = T.take 3 := by
  rw [ByteArray.toList_eq, ByteArray.data_extract, Array.toList_extract]
  simp

end Go.Proofs.Ytfbphblodankmaa
