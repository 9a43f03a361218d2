import Derived.Test.YtfbphblodankmaaHas
namespace Go.Proofs.Ytfbphblodankmaa
open Go Go.RowKit
set_option maxRecDepth 20000

/-- The end of a function whose results are a cube in memory, and a plain one. -/
theorem retCe {fn : Func} {R : Ending → World → Prop} {a : Act} {w : World} {p u : Tmp} (hr : fn.results = #[.cell p 36, .tmp u]) (hd : a.defers = []) (g : Nat) (hp : a.tmps.getD p undef = .pointer (some ⟨g, 0, none⟩)) (V M : List Int) (hV : V.length = 13) (hM : M.length = 13)
    (hg : w.heap[g]? = some (.cells (cv V M) 36 (0, 0))) (v : Value) (hu : a.tmps.getD u undef = v) (h : R (.returned (.tuple #[.agg (cv V M), v])) w) : bodyPost Try.prog fn R .ret a w := by
  refine bodyPost_ret (v := .tuple #[.agg (cv V M), v]) ?_ hd h
  rw [results_cell_tmp hr, hp, hu]
  simp [asAddr, run_loadVar_row w g 36 36 (cv V M) (0, 0) _ hg Try.underlying36 rfl (sizeC V M hV hM)]

/-- Have two cubes a header together? -/
def meets (V M V' M' : List Int) : Bool := (List.range 104).all fun i => !(bt M i && bt M' i) || (bt V i == bt V' i)
def meetV (V M V' M' : List Int) : List Int := mk fun i => (bt V i && bt M i) || (bt V' i && bt M' i)
def meetM (M M' : List Int) : List Int := mk fun i => bt M i || bt M' i
theorem meets_iff (V M V' M' : List Int) : meets V M V' M' = true ↔ ∀ i, i < 104 → bt M i = true → bt M' i = true → bt V i = bt V' i := by
  unfold meets
  simp only [List.all_eq_true, List.mem_range, Bool.or_eq_true, Bool.not_eq_true', beq_iff_eq]
  constructor
  · intro h i hi hm hm'
    rcases h i hi with h' | h'
    · rw [hm, hm'] at h'; cases h'
    · exact h'
  · intro h i hi
    cases hm : bt M i
    · exact .inl rfl
    · cases hm' : bt M' i
      · exact .inl rfl
      · exact .inr (h i hi hm hm')

theorem clash_byte (v m v' m' : Int) (hv : 0 ≤ v ∧ v < 256) (hm : 0 ≤ m ∧ m < 256) (hv' : 0 ≤ v' ∧ v' < 256) (hm' : 0 ≤ m' ∧ m' < 256) : bits .and .u8 (bits .and .u8 (bits .xor .u8 v v') m) m' = 0 ↔ ∀ j, j < 8 → yb m j = true → yb m' j = true → yb v j = yb v' j := by
  rw [zero_byte _ (bits_u8 _ _ _)]
  constructor
  · intro g j hj hmj hmj'
    have := g j hj
    rw [and_yb _ _ (bits_u8 _ _ _) hm', and_yb _ _ (bits_u8 _ _ _) hm, xor_yb _ _ hv hv', hmj, hmj'] at this
    simpa using this
  · intro g j hj
    rw [and_yb _ _ (bits_u8 _ _ _) hm', and_yb _ _ (bits_u8 _ _ _) hm, xor_yb _ _ hv hv']
    cases hmj : yb m j
    · simp
    · cases hmj' : yb m' j
      · simp
      · rw [g j hj hmj hmj']; simp

theorem can_byt (V M : List Int) : Byt (can V M) := mk_byt _
theorem can_bt (V M : List Int) (i : Nat) (hi : i < 104) : bt (can V M) i = (bt V i && bt M i) := mk_bt _ i hi
theorem meetV_byt (V M V' M' : List Int) : Byt (meetV V M V' M') := mk_byt _
theorem meetM_byt (M M' : List Int) : Byt (meetM M M') := mk_byt _

theorem meets_all (V M V' M' : List Int) (hM : Byt M) (hM' : Byt M') (h : ∀ k, k < 13 → bits .and .u8 (bits .and .u8 (bits .xor .u8 ((can V M).getD k 0) ((can V' M').getD k 0)) (M.getD k 0)) (M'.getD k 0) = 0) : meets V M V' M' = true :=
  (meets_iff V M V' M').2 fun i hi hm hm' => by
    have := (clash_byte _ _ _ _ ((can_byt V M).2 _) (hM.2 _) ((can_byt V' M').2 _) (hM'.2 _)).1 (h (i / 8) (by omega)) (i % 8) (by omega) hm hm'
    rw [← bt_at, ← bt_at, can_bt _ _ i hi, can_bt _ _ i hi, hm, hm'] at this
    simpa using this
theorem meets_not (V M V' M' : List Int) (hM : Byt M) (hM' : Byt M') (k : Nat) (hk : k < 13) (h : bits .and .u8 (bits .and .u8 (bits .xor .u8 ((can V M).getD k 0) ((can V' M').getD k 0)) (M.getD k 0)) (M'.getD k 0) ≠ 0) : meets V M V' M' = false := by
  cases e : meets V M V' M'
  · rfl
  · refine absurd ((clash_byte _ _ _ _ ((can_byt V M).2 _) (hM.2 _) ((can_byt V' M').2 _) (hM'.2 _)).2 fun j hj hm hm' => ?_) h
    have ed : (8 * k + j) / 8 = k := by omega
    have em : (8 * k + j) % 8 = j := by omega
    have hb : ∀ L : List Int, yb (L.getD k 0) j = bt L (8 * k + j) := fun L => by unfold bt; rw [ed, em]
    rw [hb] at hm hm' ⊢
    rw [hb, can_bt _ _ _ (by omega), can_bt _ _ _ (by omega), hm, hm', (meets_iff V M V' M').1 e _ (by omega) hm hm']

/-- What Meet answers. -/
def meetR (V M V' M' : List Int) : Value := .tuple #[.agg (if meets V M V' M' then cv (meetV V M V' M') (meetM M M') else cv Z Z), .bool (meets V M V' M')]
theorem meetR_yes (V M V' M' : List Int) (h : meets V M V' M' = true) : meetR V M V' M' = .tuple #[.agg (cv (meetV V M V' M') (meetM M M')), .bool true] := by unfold meetR; rw [h]; rfl
theorem meetR_no (V M V' M' : List Int) (h : meets V M V' M' = false) : meetR V M V' M' = .tuple #[.agg (cv Z Z), .bool false] := by unfold meetR; rw [h]; rfl

end Go.Proofs.Ytfbphblodankmaa
