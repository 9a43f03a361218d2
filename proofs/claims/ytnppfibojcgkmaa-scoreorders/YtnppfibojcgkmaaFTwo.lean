import Derived.Test.YtnppfibojcgkmaaFScore
namespace Go.Proofs.Ytnppfibojcgkmaa
open Ieee

theorem read_rung2 (f : Format) (r : Nat) (hr : r < f.infRung) : ∃ m i, f.read r = .number false m i ∧ f.leastPlace ≤ i ∧ m * 2 ^ (i - f.leastPlace).toNat = fval f r ∧ m < 2 * f.binade := by
  have hsw := f.infRung_lt
  have h1 : r / f.signWeight = 0 := Nat.div_eq_of_lt (by omega)
  have h2 : r % f.signWeight = r := Nat.mod_eq_of_lt (by omega)
  have hp := binade_pos f
  unfold Format.read fval
  rw [h1, h2]
  by_cases h : r < f.binade
  · simp only [h, if_true]
    exact ⟨r, f.leastPlace, rfl, Int.le_refl _, by simp, by omega⟩
  · simp only [h, if_false, hr, if_true]
    refine ⟨f.binade + r % f.binade, _, rfl, by omega, ?_, by have := Nat.mod_lt r hp; omega⟩
    rw [show (f.leastPlace + ((r / f.binade - 1 : Nat) : Int) - f.leastPlace).toNat = r / f.binade - 1 by omega]
theorem read_two : double.read TWO = .number false 4503599627370496 (-51) := by decide
theorem log2_bin : Nat.log2 4503599627370496 = 52 := by decide
/-- Divided by two: half. -/
theorem div_two (x : Nat) (hx : x < double.infRung) : double.div x TWO = some (halfR x) := by
  obtain ⟨m, i, e1, h1, h2, h3⟩ := read_rung2 double x hx
  unfold Format.div
  rw [e1, read_two]
  show (Datum.quotient (double.fractionBits + 2) (.number false m i) (.number false 4503599627370496 (-51))).map double.write = _
  unfold Datum.quotient
  simp only [show (4503599627370496 : Nat) ≠ 0 by decide, if_false, Option.map_some, Bool.xor_false, Nat.shiftLeft_eq, log2_bin]
  have hfb : double.fractionBits + 2 = 54 := rfl
  rw [hfb]
  have hlog : m.log2 ≤ 52 := by
    rcases Nat.eq_zero_or_pos m with h | h
    · subst h; decide
    · have : m.log2 < 53 := (Nat.log2_lt (by omega)).2 (by rw [d_bin] at h3; omega)
      omega
  obtain ⟨t, ht⟩ : ∃ t, 54 + 52 - m.log2 = t + 52 := ⟨54 - m.log2, by omega⟩
  rw [ht]
  have e2 : m * 2 ^ (t + 52) = 4503599627370496 * (m * 2 ^ t) := by
    rw [Nat.pow_add, ← Nat.mul_assoc, Nat.mul_comm]
  rw [e2, Nat.mul_div_cancel_left _ (by decide), Nat.mul_mod_right]
  show some (double.nearest false (2 * (m * 2 ^ t) + 0) (i - -51 - ((t + 52 : Nat) : Int) - 1)) = _
  rw [near_rn double dF]
  unfold halfR
  have key : (2 * (m * 2 ^ t) + 0) * 2 ^ (i - -51 - ((t + 52 : Nat) : Int) - 1 - double.leastPlace).toNat * 2 ^ 1 = fval double x * 2 ^ (double.leastPlace - (i - -51 - ((t + 52 : Nat) : Int) - 1)).toNat := by
    rw [← h2, Nat.add_zero]
    obtain ⟨LP, hLP⟩ : ∃ LP, LP = double.leastPlace := ⟨_, rfl⟩
    rw [← hLP] at h1 ⊢
    rw [show (i - -51 - ((t + 52 : Nat) : Int) - 1 - LP) = (i - LP) - (t : Int) - 2 by omega, show (LP - (i - -51 - ((t + 52 : Nat) : Int) - 1)) = (t : Int) + 2 - (i - LP) by omega]
    obtain ⟨a, ha⟩ : ∃ a : Nat, (i - LP) = a := ⟨(i - LP).toNat, by omega⟩
    rw [ha]
    have e3 : 2 * (m * 2 ^ t) = m * 2 ^ (t + 1) := by rw [Nat.pow_succ, Nat.mul_comm 2, Nat.mul_assoc]
    have hAB : t + 1 + ((a : Int) - (t : Int) - 2).toNat + 1 = ((a : Int)).toNat + ((t : Int) + 2 - (a : Int)).toNat := by omega
    have e4 : m * 2 ^ (t + 1) * 2 ^ ((a : Int) - (t : Int) - 2).toNat * 2 ^ 1 = m * 2 ^ (t + 1 + ((a : Int) - (t : Int) - 2).toNat + 1) := by
      obtain ⟨z, hz⟩ : ∃ z, z = ((a : Int) - (t : Int) - 2).toNat := ⟨_, rfl⟩
      rw [← hz, Nat.pow_add 2 (t + 1 + z) 1, Nat.pow_add 2 (t + 1) z, Nat.mul_assoc m, Nat.mul_assoc m]
    have e5 : m * 2 ^ ((a : Int)).toNat * 2 ^ ((t : Int) + 2 - (a : Int)).toNat = m * 2 ^ (((a : Int)).toNat + ((t : Int) + 2 - (a : Int)).toNat) := by rw [Nat.mul_assoc, ← Nat.pow_add]
    rw [e3, e4, e5, hAB]
  rw [rn_eq double dF key]
end Go.Proofs.Ytnppfibojcgkmaa
