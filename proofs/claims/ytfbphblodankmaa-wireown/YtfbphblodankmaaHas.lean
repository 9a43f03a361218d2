import Derived.Test.YtfbphblodankmaaCanon
namespace Go.Proofs.Ytfbphblodankmaa
open Go Go.RowKit
set_option maxRecDepth 20000

/-- Does a cube have a header? -/
def has (V M H : List Int) : Bool := (List.range 104).all fun i => !(bt M i) || (bt V i == bt H i)
theorem has_iff (V M H : List Int) : has V M H = true ↔ ∀ i, i < 104 → bt M i = true → bt V i = bt H i := by
  unfold has
  simp only [List.all_eq_true, List.mem_range, Bool.or_eq_true, Bool.not_eq_true', beq_iff_eq]
  constructor
  · intro h i hi hm
    rcases h i hi with h' | h'
    · rw [h'] at hm; cases hm
    · exact h'
  · intro h i hi
    cases hm : bt M i
    · exact .inl rfl
    · exact .inr (h i hi hm)

theorem has_byte (v h m : Int) (hv : 0 ≤ v ∧ v < 256) (hh : 0 ≤ h ∧ h < 256) (hm : 0 ≤ m ∧ m < 256) : bits .and .u8 (bits .xor .u8 v h) m = 0 ↔ ∀ j, j < 8 → yb m j = true → yb v j = yb h j := by
  rw [zero_byte _ (bits_u8 _ _ _)]
  constructor
  · intro g j hj hmj
    have := g j hj
    rw [and_yb _ _ (bits_u8 _ _ _) hm, xor_yb _ _ hv hh, hmj] at this
    simpa using this
  · intro g j hj
    rw [and_yb _ _ (bits_u8 _ _ _) hm, xor_yb _ _ hv hh]
    cases hmj : yb m j
    · simp
    · rw [g j hj hmj]; simp

theorem has_all (V M H : List Int) (hV : Byt V) (hM : Byt M) (hH : Byt H) (h : ∀ k, k < 13 → bits .and .u8 (bits .xor .u8 (V.getD k 0) (H.getD k 0)) (M.getD k 0) = 0) : has V M H = true :=
  (has_iff V M H).2 fun i hi hm => (has_byte _ _ _ (hV.2 _) (hH.2 _) (hM.2 _)).1 (h (i / 8) (by omega)) (i % 8) (by omega) hm
theorem has_not (V M H : List Int) (hV : Byt V) (hM : Byt M) (hH : Byt H) (k : Nat) (hk : k < 13) (h : bits .and .u8 (bits .xor .u8 (V.getD k 0) (H.getD k 0)) (M.getD k 0) ≠ 0) : has V M H = false := by
  cases e : has V M H
  · rfl
  · refine absurd ((has_byte _ _ _ (hV.2 _) (hH.2 _) (hM.2 _)).2 fun j hj hm => ?_) h
    have := (has_iff V M H).1 e (8 * k + j) (by omega)
    unfold bt at this
    rw [show (8 * k + j) / 8 = k by omega, show (8 * k + j) % 8 = j by omega] at this
    exact this hm

end Go.Proofs.Ytfbphblodankmaa
