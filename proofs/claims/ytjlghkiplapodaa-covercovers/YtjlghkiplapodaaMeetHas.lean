import Derived.Test.YtjlghkiplapodaaMeet
namespace Go.Proofs.Ytjlghkiplapodaa
open Go Go.RowKit

theorem has_meet (V M V' M' H : List Int) (h : meets V M V' M' = true) : has (meetV V M V' M') (meetM M M') H = (has V M H && has V' M' H) := by
  rw [Bool.eq_iff_iff, Bool.and_eq_true, has_iff, has_iff, has_iff]
  have hm := (meets_iff V M V' M').1 h
  have e1 : ∀ i, i < 104 → bt (meetV V M V' M') i = ((bt V i && bt M i) || (bt V' i && bt M' i)) := fun i hi => mk_bt _ i hi
  have e2 : ∀ i, i < 104 → bt (meetM M M') i = (bt M i || bt M' i) := fun i hi => mk_bt _ i hi
  constructor
  · intro g
    constructor
    · intro i hi h1
      have h3 := g i hi (by rw [e2 i hi, h1]; rfl)
      rw [e1 i hi, h1] at h3
      have h4 := hm i hi h1
      revert h3 h4
      cases bt V i <;> cases bt V' i <;> cases bt M' i <;> cases bt H i <;> simp
    · intro i hi h1
      have h3 := g i hi (by rw [e2 i hi, h1]; simp)
      rw [e1 i hi, h1] at h3
      have h4 := fun h => hm i hi h h1
      revert h3 h4
      cases bt V i <;> cases bt V' i <;> cases bt M i <;> cases bt H i <;> simp
  · rintro ⟨g1, g2⟩ i hi h1
    have h3 := g1 i hi
    have h4 := g2 i hi
    rw [e2 i hi] at h1
    rw [e1 i hi]
    revert h1 h3 h4
    cases bt V i <;> cases bt V' i <;> cases bt M i <;> cases bt M' i <;> cases bt H i <;> simp
theorem has_meets {V M V' M' H : List Int} (h : has V M H = true) (h' : has V' M' H = true) : meets V M V' M' = true := by
  rw [has_iff] at h h'
  exact (meets_iff _ _ _ _).2 fun i hi h1 h2 => by rw [h i hi h1, h' i hi h2]
end Go.Proofs.Ytjlghkiplapodaa
