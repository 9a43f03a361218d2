import Derived.Test.YtnppfibojcgkmaaFCmp
namespace Go.Proofs.Ytnppfibojcgkmaa
open Ieee

theorem dF : 1 ≤ double.fractionBits := by decide
theorem d_bin : double.binade = 4503599627370496 := by decide
theorem d_inf : double.infRung = 9218868437227405312 := by decide
theorem d_sw : double.signWeight = 9223372036854775808 := by decide
/-- How far below one the least place lies, less one. -/
def lph : Nat := 1073
theorem d_lp : double.leastPlace = -((lph : Int) + 1) := by unfold lph; decide
theorem d_lpn : (-double.leastPlace).toNat = lph + 1 := by rw [d_lp]; omega
theorem d_lp0 : double.leastPlace ≤ 0 := by rw [d_lp]; omega
theorem dE : double.binade ≤ double.infRung := by rw [d_bin, d_inf]; decide
/-- One, a half, two, the greatest finite number. -/
def ONE : Nat := 4607182418800017408
def HALF : Nat := 4602678819172646912
def TWO : Nat := 4611686018427387904
def MAXR : Nat := 9218868437227405311
theorem val_pow (e : Nat) : fval double (e * double.binade + double.binade) = 2 ^ (52 + e) := by
  rw [fval_form double e double.binade (.inr ⟨Nat.le_refl _, by omega⟩), Nat.pow_add]; rfl
theorem val_one : fval double ONE = 2 ^ (lph + 1) := by
  have := val_pow (lph - 51)
  rw [show (lph - 51) * double.binade + double.binade = ONE by rw [d_bin]; rfl, show 52 + (lph - 51) = lph + 1 from rfl] at this
  exact this
theorem val_half : fval double HALF = 2 ^ lph := by
  have := val_pow (lph - 52)
  rw [show (lph - 52) * double.binade + double.binade = HALF by rw [d_bin]; rfl, show 52 + (lph - 52) = lph from rfl] at this
  exact this
theorem val_two : fval double TWO = 2 ^ (lph + 2) := by
  have := val_pow (lph - 50)
  rw [show (lph - 50) * double.binade + double.binade = TWO by rw [d_bin]; rfl, show 52 + (lph - 50) = lph + 2 from rfl] at this
  exact this
/-- Half of a rung. -/
def halfR (x : Nat) : Nat := rn double (fval double x) 1
theorem mul_half (x : Nat) (hx : x < double.infRung) : double.mul x HALF = some (halfR x) := by
  rw [mul_rung double dF d_lp0 x HALF hx (by rw [d_inf]; decide), val_half, d_lpn]
  unfold halfR
  have e : fval double x * 2 ^ lph * 2 ^ 1 = fval double x * 2 ^ (lph + 1) := by rw [Nat.mul_assoc, ← Nat.pow_add]
  rw [rn_eq double dF e]
theorem mul_comm_rung (x y : Nat) (hx : x < double.infRung) (hy : y < double.infRung) : double.mul x y = double.mul y x := by
  rw [mul_rung double dF d_lp0 x y hx hy, mul_rung double dF d_lp0 y x hy hx, Nat.mul_comm]
/-- A quotient of rungs: what is written. -/
theorem div_rung (x y : Nat) (hx : x < double.infRung) (hy : y < double.infRung) (hy0 : 0 < y) : ∃ m i n j, m * 2 ^ (i - double.leastPlace).toNat = fval double x ∧ n * 2 ^ (j - double.leastPlace).toNat = fval double y ∧ double.leastPlace ≤ i ∧ double.leastPlace ≤ j ∧ n ≠ 0 ∧ (m = 0 ↔ x = 0) ∧
    double.div x y = some (double.nearest false (2 * ((m * 2 ^ (54 + n.log2 - m.log2)) / n) + ((m * 2 ^ (54 + n.log2 - m.log2)) % n != 0).toNat) (i - j - ((54 + n.log2 - m.log2 : Nat) : Int) - 1)) := by
  obtain ⟨m, i, e1, h1, h2, h5⟩ := read_rung double x hx
  obtain ⟨n, j, e2, h3, h4, h6⟩ := read_rung double y hy
  have hn : n ≠ 0 := fun h => by have := h6.1 h; omega
  refine ⟨m, i, n, j, h2, h4, h1, h3, hn, h5, ?_⟩
  unfold Format.div
  rw [e1, e2]
  show (Datum.quotient (double.fractionBits + 2) (.number false m i) (.number false n j)).map double.write = _
  unfold Datum.quotient
  simp only [hn, if_false, Option.map_some, Bool.xor_false, Nat.shiftLeft_eq]
  rfl
theorem le_of_scaled {a b c : Nat} (h : a * 2 ^ c ≤ b * 2 ^ c) : a ≤ b := pow_cancel_le.1 h
/-- A part of something is not above one. -/
theorem div_le_one (x y : Nat) (hxy : x ≤ y) (hy : y < double.infRung) (hy0 : 0 < y) : ∃ R, double.div x y = some R ∧ R ≤ ONE := by
  obtain ⟨m, i, n, j, h1, h2, h3, h4, hn, hm0, hd⟩ := div_rung x y (by omega) hy hy0
  refine ⟨_, hd, ?_⟩
  obtain ⟨more, hmore⟩ : ∃ more, more = 54 + n.log2 - m.log2 := ⟨_, rfl⟩
  rw [← hmore]
  have hle : m * 2 ^ (i - double.leastPlace).toNat ≤ n * 2 ^ (j - double.leastPlace).toNat := by rw [h1, h2]; exact fval_le double hxy
  rw [near_rn double dF]
  apply rn_le double dF (by rw [d_inf]; decide)
  rw [val_one]
  obtain ⟨q, hq⟩ : ∃ q, q = 2 * (m * 2 ^ more / n) + (m * 2 ^ more % n != 0).toNat := ⟨_, rfl⟩
  rw [← hq]
  obtain ⟨a, ha⟩ : ∃ a, a = (i - double.leastPlace).toNat := ⟨_, rfl⟩
  obtain ⟨b, hb⟩ : ∃ b, b = (j - double.leastPlace).toNat := ⟨_, rfl⟩
  rw [← ha, ← hb] at hle
  rw [d_lp] at h3 h4 ha hb ⊢
  rcases Nat.eq_zero_or_pos m with hm | hm
  · subst hm
    rw [Nat.zero_mul, Nat.zero_div, Nat.zero_mod] at hq
    rw [hq]
    simp
  -- the dividend is not above the divisor, scaled
  have hbm : a ≤ b + more := by
    rcases Nat.lt_or_ge (b + more) a with h | h
    · exfalso
      have k1 : m * 2 ^ (more + 1) ≤ n := by
        apply le_of_scaled (c := b)
        refine Nat.le_trans ?_ hle
        rw [Nat.mul_assoc, ← Nat.pow_add]
        exact Nat.mul_le_mul_left _ (Nat.pow_le_pow_right (by decide) (by omega))
      have k2 : n < 2 ^ (n.log2 + 1) := Nat.lt_log2_self
      have k3 : 2 ^ m.log2 ≤ m := Nat.log2_self_le (by omega)
      have k4 : 2 ^ (n.log2 + 1) ≤ 2 ^ m.log2 * 2 ^ (more + 1) := by
        rw [← Nat.pow_add]
        exact Nat.pow_le_pow_right (by decide) (by omega)
      have k5 : 2 ^ m.log2 * 2 ^ (more + 1) ≤ m * 2 ^ (more + 1) := Nat.mul_le_mul_right _ k3
      omega
    · exact h
  obtain ⟨t, ht⟩ : ∃ t, b + more = a + t := ⟨b + more - a, by omega⟩
  have hdv : m * 2 ^ more ≤ n * 2 ^ t := by
    apply le_of_scaled (c := a)
    rw [Nat.mul_assoc, Nat.mul_assoc, ← Nat.pow_add, ← Nat.pow_add, show t + a = b + more by omega, Nat.add_comm more a, Nat.pow_add, ← Nat.mul_assoc, Nat.pow_add, ← Nat.mul_assoc]
    exact Nat.mul_le_mul_right _ hle
  have hq2 : q ≤ 2 * 2 ^ t := by
    rw [hq]
    have hn0 : 0 < n := by omega
    have d1 : m * 2 ^ more / n ≤ 2 ^ t := by
      have := Nat.div_le_div_right (c := n) hdv
      rwa [Nat.mul_comm n, Nat.mul_div_cancel _ hn0] at this
    by_cases hz : m * 2 ^ more % n = 0
    · rw [hz]; simp; omega
    · have d2 : m * 2 ^ more / n < 2 ^ t := by
        rcases Nat.lt_or_eq_of_le d1 with h | h
        · exact h
        · exfalso
          have h7 := Nat.div_add_mod (m * 2 ^ more) n
          rw [h] at h7
          omega
      have : (m * 2 ^ more % n != 0).toNat ≤ 1 := Bool.toNat_le _
      omega
  -- in units of the least place
  rw [show (-((lph : Int) + 1) - (i - j - (more : Int) - 1)) = (t : Int) - lph by omega, show (i - j - (more : Int) - 1 - -((lph : Int) + 1)) = (lph : Int) - t by omega]
  by_cases h8 : t ≤ lph
  · rw [show ((lph : Int) - (t : Int)).toNat = lph - t by omega, show ((t : Int) - lph).toNat = 0 by omega, Nat.pow_zero, Nat.mul_one]
    refine Nat.le_trans (Nat.mul_le_mul_right _ hq2) ?_
    rw [Nat.mul_assoc, ← Nat.pow_add, show t + (lph - t) = lph by omega, Nat.pow_succ, Nat.mul_comm]
    exact Nat.le_refl _
  · rw [show ((lph : Int) - (t : Int)).toNat = 0 by omega, show ((t : Int) - lph).toNat = t - lph by omega, Nat.pow_zero, Nat.mul_one, ← Nat.pow_add, show lph + 1 + (t - lph) = t + 1 by omega, Nat.pow_succ, Nat.mul_comm]
    exact hq2
end Go.Proofs.Ytnppfibojcgkmaa
