import Derived.Test.YtplnlmkmaapbaaaDoorRefMeet
namespace Go.Proofs.YtplnlmkmaapbaaaDoor
open Go Go.RowKit

/-- The pieces as the chapter lays them. -/
def rGo (M V' M' : List Int) : Nat → Nat → List Int → List Int → List (List Int × List Int)
  | 0, _, _, _ => []
  | f + 1, i, RV, RM => if bt M i = false ∧ bt M' i = true then (setb RV i (!(bt V' i)), setb RM i true) :: rGo M V' M' f (i + 1) (setb RV i (bt V' i)) (setb RM i true) else rGo M V' M' f (i + 1) RV RM
theorem rGo_cut (M V' M' : List Int) (f i : Nat) (RV RM : List Int) (h : bt M i = false) (h2 : bt M' i = true) : rGo M V' M' (f + 1) i RV RM = (setb RV i (!(bt V' i)), setb RM i true) :: rGo M V' M' f (i + 1) (setb RV i (bt V' i)) (setb RM i true) := by
  rw [rGo, if_pos ⟨h, h2⟩]
theorem rGo_pass (M V' M' : List Int) (f i : Nat) (RV RM : List Int) (h : ¬ (bt M i = false ∧ bt M' i = true)) : rGo M V' M' (f + 1) i RV RM = rGo M V' M' f (i + 1) RV RM := by
  rw [rGo, if_neg h]
theorem rGo_nil (M V' M' : List Int) : ∀ (f i : Nat) (RV RM : List Int), i + f ≤ 104 → (∀ j, i ≤ j → j < 104 → ¬ (bt M j = false ∧ bt M' j = true)) → rGo M V' M' f i RV RM = []
  | 0, _, _, _, _, _ => rfl
  | f + 1, i, RV, RM, h, hj => by
    rw [rGo_pass M V' M' f i RV RM (hj i (Nat.le_refl _) (by omega))]
    exact rGo_nil M V' M' f (i + 1) RV RM (by omega) fun j h1 h2 => hj j (by omega) h2

theorem bt_setb (L : List Int) (i : Nat) (b : Bool) (k : Nat) (hk : k < 104) : bt (setb L i b) k = if k = i then b else bt L k := setb_bt L i b k hk

theorem mGo_rGo (V M V' M' : List Int) : ∀ (f i : Nat) (RV RM : List Int), i + f = 104 → (∀ j, i ≤ j → j < 104 → bt RM j = bt M j) → can RV RM = RV →
    mGo (meetV V M V' M') (meetM M M') f i RV RM = rGo M V' M' f i RV RM
  | 0, _, _, _, _, _, _ => rfl
  | f + 1, i, RV, RM, hf, hj, hc => by
    have hi : i < 104 := by omega
    have eM : ∀ j, j < 104 → bt (meetM M M') j = (bt M j || bt M' j) := fun j h => mk_bt _ j h
    have eV : bt (meetV V M V' M') i = ((bt V i && bt M i) || (bt V' i && bt M' i)) := mk_bt _ i hi
    by_cases hst : (RV == meetV V M V' M' && RM == meetM M M') = true
    · rw [mGo_stop _ _ _ _ _ _ hst]
      symm
      refine rGo_nil M V' M' (f + 1) i RV RM (by omega) fun j h1 h2 => ?_
      rw [Bool.and_eq_true, beq_iff_eq, beq_iff_eq] at hst
      have h3 := hj j h1 h2
      rw [hst.2, eM j h2] at h3
      rintro ⟨h4, h5⟩
      rw [h4, h5] at h3
      cases h3
    · have hst' : (RV == meetV V M V' M' && RM == meetM M M') = false := by simpa using hst
      have h3 := hj i (Nat.le_refl _) hi
      by_cases hcut : bt M i = false ∧ bt M' i = true
      · obtain ⟨h4, h5⟩ := hcut
        rw [mGo_cut _ _ _ _ _ _ hst' (by rw [h3]; exact h4) (by rw [eM i hi, h5]; simp), rGo_cut M V' M' f i RV RM h4 h5]
        rw [h4, h5] at eV
        simp only [Bool.and_false, Bool.and_true, Bool.false_or] at eV
        rw [eV]
        unfold fixV fixM
        rw [hc]
        congr 1
        refine mGo_rGo V M V' M' f (i + 1) _ _ (by omega) (fun j h6 h7 => ?_) ?_
        · rw [bt_setb _ _ _ _ h7, if_neg (by omega)]; exact hj j (by omega) h7
        · refine bt_ext _ _ (can_byt _ _) (setb_byt _ _ _) fun k hk => ?_
          rw [can_bt _ _ k hk, bt_setb _ _ _ _ hk, bt_setb _ _ _ _ hk]
          by_cases e : k = i
          · rw [if_pos e, if_pos e, Bool.and_true]
          · rw [if_neg e, if_neg e, ← can_bt _ _ k hk, hc]
      · rw [rGo_pass M V' M' f i RV RM hcut, mGo_pass _ _ _ _ _ _ hst' (by
          rw [h3, eM i hi]
          revert hcut
          cases bt M i <;> cases bt M' i <;> simp)]
        exact mGo_rGo V M V' M' f (i + 1) RV RM (by omega) (fun j h1 h2 => hj j (by omega) h2) hc

/-- How many of a list's cubes have a header. -/
def cnt (H : List Int) : List (List Int × List Int) → Nat
  | [] => 0
  | c :: C => (if has c.1 c.2 H = true then 1 else 0) + cnt H C
theorem cnt_append (H : List Int) : ∀ (C D : List (List Int × List Int)), cnt H (C ++ D) = cnt H C + cnt H D
  | [], D => by simp [cnt]
  | c :: C, D => by rw [List.cons_append, cnt, cnt, cnt_append H C D]; omega
theorem cnt_le (H : List Int) : ∀ C : List (List Int × List Int), cnt H C ≤ C.length
  | [] => Nat.le_refl _
  | c :: C => by have := cnt_le H C; rw [cnt, List.length_cons]; split <;> omega

theorem has_setb (RV RM H : List Int) (i : Nat) (b : Bool) (hi : i < 104) (hf : bt RM i = false) : has (setb RV i b) (setb RM i true) H = (has RV RM H && (bt H i == b)) := by
  rw [Bool.eq_iff_iff, Bool.and_eq_true, has_iff, has_iff, beq_iff_eq]
  constructor
  · intro g
    constructor
    · intro k hk hm
      have hki : k ≠ i := by rintro rfl; rw [hf] at hm; cases hm
      have := g k hk (by rw [bt_setb _ _ _ _ hk, if_neg hki]; exact hm)
      rwa [bt_setb _ _ _ _ hk, if_neg hki] at this
    · have := g i hi (by rw [bt_setb _ _ _ _ hi, if_pos rfl])
      rw [bt_setb _ _ _ _ hi, if_pos rfl] at this
      exact this.symm
  · rintro ⟨g1, g2⟩ k hk hm
    rw [bt_setb _ _ _ _ hk]
    rw [bt_setb _ _ _ _ hk] at hm
    by_cases h : k = i
    · rw [if_pos h, h, g2]
    · rw [if_neg h] at hm ⊢
      exact g1 k hk hm

/-- Is there a bit, from a place on, that is free in the first cube, fixed in the second one, and another one in the header? -/
def far (M V' M' H : List Int) : Nat → Nat → Bool
  | 0, _ => false
  | f + 1, i => (!(bt M i) && bt M' i && (bt H i != bt V' i)) || far M V' M' H f (i + 1)
theorem far_iff (M V' M' H : List Int) : ∀ f i, far M V' M' H f i = true ↔ ∃ j, i ≤ j ∧ j < i + f ∧ bt M j = false ∧ bt M' j = true ∧ bt H j ≠ bt V' j
  | 0, i => by
    simp only [far, Bool.false_eq_true, false_iff]
    rintro ⟨j, h1, h2, _⟩; omega
  | f + 1, i => by
    rw [far, Bool.or_eq_true, far_iff M V' M' H f (i + 1)]
    constructor
    · rintro (h | ⟨j, h1, h2, h3⟩)
      · refine ⟨i, Nat.le_refl _, by omega, ?_⟩
        revert h
        cases bt M i <;> cases bt M' i <;> simp
      · exact ⟨j, by omega, by omega, h3⟩
    · rintro ⟨j, h1, h2, h3, h4, h5⟩
      by_cases e : j = i
      · subst e; left; rw [h3, h4]; simpa using h5
      · right; exact ⟨j, by omega, by omega, h3, h4, h5⟩

theorem cnt_rGo (M V' M' H : List Int) : ∀ (f i : Nat) (RV RM : List Int), i + f = 104 → (∀ j, i ≤ j → j < 104 → bt RM j = bt M j) →
    cnt H (rGo M V' M' f i RV RM) = if (has RV RM H && far M V' M' H f i) = true then 1 else 0
  | 0, _, _, _, _, _ => by simp [rGo, cnt, far]
  | f + 1, i, RV, RM, hf, hj => by
    have hi : i < 104 := by omega
    have h3 := hj i (Nat.le_refl _) hi
    by_cases hcut : bt M i = false ∧ bt M' i = true
    · obtain ⟨h4, h5⟩ := hcut
      have hj' : ∀ j, i + 1 ≤ j → j < 104 → bt (setb RM i true) j = bt M j := fun j h6 h7 => by
        rw [bt_setb _ _ _ _ h7, if_neg (by omega)]; exact hj j (by omega) h7
      rw [rGo_cut M V' M' f i RV RM h4 h5, cnt, cnt_rGo M V' M' H f (i + 1) _ _ (by omega) hj', has_setb _ _ _ _ _ hi (by rw [h3]; exact h4), has_setb _ _ _ _ _ hi (by rw [h3]; exact h4), far, h4, h5]
      cases has RV RM H <;> cases bt H i <;> cases bt V' i <;> cases far M V' M' H f (i + 1) <;> rfl
    · rw [rGo_pass M V' M' f i RV RM hcut, cnt_rGo M V' M' H f (i + 1) RV RM (by omega) fun j h1 h2 => hj j (by omega) h2, far]
      rw [show (!(bt M i) && bt M' i && (bt H i != bt V' i)) = false by
        revert hcut
        cases bt M i <;> cases bt M' i <;> simp, Bool.false_or]

theorem minus_rGo (V M V' M' : List Int) (h : meets V M V' M' = true) : minusC V M V' M' = rGo M V' M' 104 0 (can V M) M := by
  rw [minusC_yes _ _ _ _ h]
  refine mGo_rGo V M V' M' 104 0 _ _ rfl (fun _ _ _ => rfl) ?_
  refine bt_ext _ _ (can_byt _ _) (can_byt _ _) fun i hi => ?_
  rw [can_bt _ _ i hi, can_bt _ _ i hi]; cases bt V i <;> cases bt M i <;> rfl

theorem has_can' (V M H : List Int) : has (can V M) M H = has V M H := by
  rw [Bool.eq_iff_iff, has_iff, has_iff]
  constructor
  · intro h i hi hm
    have := h i hi hm
    rwa [can_bt _ _ i hi, hm, Bool.and_true] at this
  · intro h i hi hm
    rw [can_bt _ _ i hi, hm, Bool.and_true]; exact h i hi hm

theorem cnt_minus (V M V' M' H : List Int) : cnt H (minusC V M V' M') = if (has V M H && !(has V' M' H)) = true then 1 else 0 := by
  cases hm : meets V M V' M'
  · rw [minusC_no _ _ _ _ hm, cnt, cnt, has_can', Nat.add_zero]
    cases hx : has V M H
    · rfl
    · cases hy : has V' M' H
      · rfl
      · rw [has_iff] at hx hy
        have : meets V M V' M' = true := (meets_iff _ _ _ _).2 fun i hi h1 h2 => by rw [hx i hi h1, hy i hi h2]
        rw [hm] at this; cases this
  · rw [minus_rGo _ _ _ _ hm, cnt_rGo M V' M' H 104 0 _ _ rfl (fun _ _ _ => rfl), has_can']
    cases hx : has V M H
    · rfl
    · rw [Bool.true_and, Bool.true_and]
      have e : far M V' M' H 104 0 = !(has V' M' H) := by
        rw [Bool.eq_iff_iff, far_iff, Bool.not_eq_true']
        rw [has_iff] at hx
        rw [meets_iff] at hm
        constructor
        · rintro ⟨j, _, h2, h3, h4, h5⟩
          cases hy : has V' M' H
          · rfl
          · rw [has_iff] at hy
            exact absurd (hy j (by omega) h4).symm h5
        · intro hy
          refine Classical.byContradiction fun hn => ?_
          have : has V' M' H = true := (has_iff _ _ _).2 fun i hi h1 => by
            cases h2 : bt M i
            · refine Classical.byContradiction fun h3 => hn ⟨i, Nat.zero_le _, by omega, h2, h1, fun h4 => h3 h4.symm⟩
            · rw [← hm i hi h2 h1]; exact hx i hi h2
          rw [hy] at this; cases this
      rw [e]
end Go.Proofs.YtplnlmkmaapbaaaDoor
