import Derived.Test.YtnppfibojcgkmaaFNear
namespace Go.Proofs.Ytnppfibojcgkmaa
open Ieee

section
variable (f : Format)
/-- The rung nearest to N / 2 ^ s units. -/
def rn (N s : Nat) : Nat := f.nearest false N (f.leastPlace - (s : Int))
theorem rn_ge (hF : 1 ≤ f.fractionBits) (N s r : Nat) (hr : r < f.infRung) : r + 1 ≤ rn f N s ↔ (fval f r + fval f (r + 1)) * 2 ^ s < 2 * N ∨ ((fval f r + fval f (r + 1)) * 2 ^ s = 2 * N ∧ r % 2 = 1) := by
  unfold rn
  rw [near_ge f hF N _ r hr, show (f.leastPlace - (f.leastPlace - (s : Int))).toNat = s by omega, show (f.leastPlace - (s : Int) - f.leastPlace).toNat = 0 by omega, Nat.pow_zero, Nat.mul_one]
theorem near_le (mag : Nat) (place : Int) : f.nearest false mag place ≤ f.infRung := by
  unfold Format.nearest
  split
  · exact Nat.zero_le _
  · simp only [Format.word, Bool.false_eq_true, if_false]
    exact Nat.min_le_right _ _
theorem rn_le_inf (N s : Nat) : rn f N s ≤ f.infRung := near_le f _ _
theorem rn_mono (hF : 1 ≤ f.fractionBits) {N s N' s' : Nat} (h : N * 2 ^ s' ≤ N' * 2 ^ s) : rn f N s ≤ rn f N' s' := by
  rcases Nat.eq_zero_or_pos (rn f N s) with h0 | h0
  · omega
  obtain ⟨r, hr⟩ : ∃ r, rn f N s = r + 1 := ⟨rn f N s - 1, by omega⟩
  have hlt : r < f.infRung := by have := rn_le_inf f N s; omega
  rw [hr, rn_ge f hF N' s' r hlt]
  have h1 := (rn_ge f hF N s r hlt).1 (by omega)
  obtain ⟨c, hc⟩ : ∃ c, c = fval f r + fval f (r + 1) := ⟨_, rfl⟩
  rw [← hc] at h1 ⊢
  have e1 : c * 2 ^ s' * 2 ^ s = c * 2 ^ s * 2 ^ s' := by rw [Nat.mul_assoc, Nat.mul_assoc, Nat.mul_comm (2 ^ s')]
  have e2 : 2 * N' * 2 ^ s = 2 * (N' * 2 ^ s) := Nat.mul_assoc _ _ _
  have e3 : 2 * N * 2 ^ s' = 2 * (N * 2 ^ s') := Nat.mul_assoc _ _ _
  rw [← pow_cancel (a := c * 2 ^ s') (c := s), ← pow_cancel_eq (a := c * 2 ^ s') (c := s), e1, e2]
  rcases h1 with h1 | ⟨h1, h2⟩
  · left
    have := (pow_cancel (c := s')).2 h1
    omega
  · have := (pow_cancel_eq (c := s')).2 h1
    rcases Nat.lt_or_eq_of_le h with h3 | h3
    · left; omega
    · right; exact ⟨by omega, h2⟩
theorem rn_eq (hF : 1 ≤ f.fractionBits) {N s N' s' : Nat} (h : N * 2 ^ s' = N' * 2 ^ s) : rn f N s = rn f N' s' :=
  Nat.le_antisymm (rn_mono f hF (Nat.le_of_eq h)) (rn_mono f hF (Nat.le_of_eq h.symm))
theorem near_rn (hF : 1 ≤ f.fractionBits) (mag : Nat) (place : Int) : f.nearest false mag place = rn f (mag * 2 ^ (place - f.leastPlace).toNat) (f.leastPlace - place).toNat := by
  have h : ∀ r, r < f.infRung → (r + 1 ≤ f.nearest false mag place ↔ r + 1 ≤ rn f (mag * 2 ^ (place - f.leastPlace).toNat) (f.leastPlace - place).toNat) := fun r hr => by
    rw [near_ge f hF mag place r hr, rn_ge f hF _ _ r hr]
  have h1 := near_le f mag place
  have h2 := rn_le_inf f (mag * 2 ^ (place - f.leastPlace).toNat) (f.leastPlace - place).toNat
  obtain ⟨a, ha⟩ : ∃ a, a = f.nearest false mag place := ⟨_, rfl⟩
  obtain ⟨b, hb⟩ : ∃ b, b = rn f (mag * 2 ^ (place - f.leastPlace).toNat) (f.leastPlace - place).toNat := ⟨_, rfl⟩
  rw [← ha, ← hb] at h ⊢
  rw [← ha] at h1
  rw [← hb] at h2
  rcases Nat.lt_trichotomy a b with hc | hc | hc
  · have := (h a (by omega)).2 hc; omega
  · exact hc
  · have := (h b (by omega)).1 hc; omega
theorem rn_val (hF : 1 ≤ f.fractionBits) (r : Nat) (hr : r ≤ f.infRung) : rn f (fval f r) 0 = r := by
  apply Nat.le_antisymm
  · rcases Nat.lt_or_eq_of_le hr with h | h
    · rcases Nat.lt_or_ge r (rn f (fval f r) 0) with h1 | h1
      · exfalso
        have := (rn_ge f hF (fval f r) 0 r h).1 h1
        have h2 := fval_succ f r
        rw [Nat.pow_zero, Nat.mul_one] at this
        rcases this with h3 | ⟨h3, _⟩ <;> omega
      · exact h1
    · rw [h]; exact rn_le_inf f _ _
  · rcases Nat.eq_zero_or_pos r with h | h
    · omega
    · obtain ⟨q, rfl⟩ : ∃ q, r = q + 1 := ⟨r - 1, by omega⟩
      refine (rn_ge f hF _ 0 q (by omega)).2 (.inl ?_)
      have h2 := fval_succ f q
      rw [Nat.pow_zero, Nat.mul_one]
      omega
theorem rn_zero (s : Nat) : rn f 0 s = 0 := by unfold rn; rw [near_zero]; rfl
theorem rn_le (hF : 1 ≤ f.fractionBits) {N s r : Nat} (hr : r ≤ f.infRung) (h : N ≤ fval f r * 2 ^ s) : rn f N s ≤ r := by
  have := rn_mono f hF (N := N) (s := s) (N' := fval f r) (s' := 0) (by simpa using h)
  rwa [rn_val f hF r hr] at this
theorem le_rn (hF : 1 ≤ f.fractionBits) {N s r : Nat} (hr : r ≤ f.infRung) (h : fval f r * 2 ^ s ≤ N) : r ≤ rn f N s := by
  have := rn_mono f hF (N := fval f r) (s := 0) (N' := N) (s' := s) (by simpa using h)
  rwa [rn_val f hF r hr] at this

/-- What a rung below infinity stands for. -/
theorem read_rung (r : Nat) (hr : r < f.infRung) : ∃ m i, f.read r = .number false m i ∧ f.leastPlace ≤ i ∧ m * 2 ^ (i - f.leastPlace).toNat = fval f r ∧ (m = 0 ↔ r = 0) := by
  have hsw := f.infRung_lt
  have h1 : r / f.signWeight = 0 := Nat.div_eq_of_lt (by omega)
  have h2 : r % f.signWeight = r := Nat.mod_eq_of_lt (by omega)
  have hp := binade_pos f
  unfold Format.read fval
  rw [h1, h2]
  by_cases h : r < f.binade
  · simp only [h, if_true]
    refine ⟨r, f.leastPlace, rfl, Int.le_refl _, by simp, Iff.rfl⟩
  · simp only [h, if_false, hr, if_true]
    refine ⟨f.binade + r % f.binade, _, rfl, by omega, ?_, by omega⟩
    rw [show (f.leastPlace + ((r / f.binade - 1 : Nat) : Int) - f.leastPlace).toNat = r / f.binade - 1 by omega]
theorem fval_inj {r r' : Nat} (h : fval f r = fval f r') : r = r' := by
  rcases Nat.lt_trichotomy r r' with h1 | h1 | h1
  · have := fval_lt f h1; omega
  · exact h1
  · have := fval_lt f h1; omega
theorem signed_false (m up : Nat) : signed false m up = ((m * 2 ^ up : Nat) : Int) := by unfold signed; simp [Nat.shiftLeft_eq]
theorem scale_base (LP i base : Int) (m : Nat) (h1 : LP ≤ base) (h2 : base ≤ i) : m * 2 ^ (i - base).toNat * 2 ^ (base - LP).toNat = m * 2 ^ (i - LP).toNat := by
  rw [Nat.mul_assoc, ← Nat.pow_add, show (i - base).toNat + (base - LP).toNat = (i - LP).toNat by omega]
/-- A sum of two rungs. -/
theorem add_rung (hF : 1 ≤ f.fractionBits) (x y : Nat) (hx : x < f.infRung) (hy : y < f.infRung) : f.add x y = some (rn f (fval f x + fval f y) 0) := by
  obtain ⟨m, i, e1, h1, h2, _⟩ := read_rung f x hx
  obtain ⟨n, j, e2, h3, h4, _⟩ := read_rung f y hy
  unfold Format.add
  rw [e1, e2]
  show (Datum.sum (.number false m i) (.number false n j)).map f.write = _
  unfold Datum.sum
  simp only [signed_false, Option.map_some]
  obtain ⟨base, hb⟩ : ∃ base, base = min i j := ⟨_, rfl⟩
  have hb1 : f.leastPlace ≤ base := by omega
  have hb2 : base ≤ i := by omega
  have hb3 : base ≤ j := by omega
  rw [← hb]
  clear hb
  have ht : (((m * 2 ^ (i - base).toNat : Nat) : Int) + ((n * 2 ^ (j - base).toNat : Nat) : Int)) = ((m * 2 ^ (i - base).toNat + n * 2 ^ (j - base).toNat : Nat) : Int) := by omega
  rw [ht]
  obtain ⟨T, hT⟩ : ∃ T, T = m * 2 ^ (i - base).toNat + n * 2 ^ (j - base).toNat := ⟨_, rfl⟩
  rw [← hT]
  have hs : (if ((T : Nat) : Int) = 0 then (false && false) else decide (((T : Nat) : Int) < 0)) = false := by
    split
    · rfl
    · simp
  rw [hs]
  unfold Format.write
  congr 1
  show f.nearest false ((T : Int).natAbs) base = _
  rw [Int.natAbs_natCast, near_rn f hF]
  apply rn_eq f hF
  rw [show (f.leastPlace - base).toNat = 0 by omega, hT, Nat.pow_zero, Nat.mul_one, Nat.mul_one, Nat.add_mul, scale_base _ _ _ _ hb1 hb2, scale_base _ _ _ _ hb1 hb3, h2, h4]
/-- A product of two rungs. -/
theorem mul_rung (hF : 1 ≤ f.fractionBits) (hLP : f.leastPlace ≤ 0) (x y : Nat) (hx : x < f.infRung) (hy : y < f.infRung) : f.mul x y = some (rn f (fval f x * fval f y) (-f.leastPlace).toNat) := by
  obtain ⟨m, i, e1, h1, h2, _⟩ := read_rung f x hx
  obtain ⟨n, j, e2, h3, h4, _⟩ := read_rung f y hy
  unfold Format.mul
  rw [e1, e2]
  show (Datum.product (.number false m i) (.number false n j)).map f.write = _
  unfold Datum.product
  simp only [Option.map_some, Bool.xor_false]
  unfold Format.write
  congr 1
  show f.nearest false (m * n) (i + j) = _
  rw [near_rn f hF]
  apply rn_eq f hF
  rw [← h2, ← h4]
  have e : ∀ a b c d : Nat, m * n * 2 ^ a * 2 ^ b = m * 2 ^ c * (n * 2 ^ d) * 2 ^ (a + b - c - d) ∨ c + d > a + b := fun a b c d => by
    by_cases h : c + d ≤ a + b
    · left
      rw [Nat.mul_assoc, ← Nat.pow_add, Nat.mul_assoc m, Nat.mul_assoc m, Nat.mul_assoc m]
      congr 1
      rw [Nat.mul_comm (2 ^ c), Nat.mul_assoc n, ← Nat.pow_add, Nat.mul_assoc n, ← Nat.pow_add]
      congr 2
      omega
    · right; omega
  rcases e (i + j - f.leastPlace).toNat (-f.leastPlace).toNat (i - f.leastPlace).toNat (j - f.leastPlace).toNat with h | h
  · rw [h]
    congr 2
    omega
  · omega
end
end Go.Proofs.Ytnppfibojcgkmaa
