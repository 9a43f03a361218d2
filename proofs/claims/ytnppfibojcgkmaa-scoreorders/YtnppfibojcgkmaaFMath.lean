import Ieee.Arith
import Derived.Laws.FloatBits
namespace Go.Proofs.Ytnppfibojcgkmaa
open Ieee

/-- Half and even: when so much, or more, comes of it. -/
theorem cut_ge (neg : Bool) (n d k : Nat) : k + 1 ≤ Toward.even.cut neg n d ↔ (2 * k + 1) * 2 ^ d < 2 * n ∨ ((2 * k + 1) * 2 ^ d = 2 * n ∧ k % 2 = 1) := by
  unfold Toward.cut
  simp only [Nat.one_shiftLeft]
  by_cases hd : d ≤ n.log2 + 2
  · rw [Nat.min_eq_left hd]
    obtain ⟨g, hg⟩ : ∃ g, g = 2 ^ d := ⟨_, rfl⟩
    have hg0 : 0 < g := by rw [hg]; exact Nat.pow_pos (by decide)
    rw [← hg]
    obtain ⟨low, hlow⟩ : ∃ low, low = n / g := ⟨_, rfl⟩
    obtain ⟨rest, hrest⟩ : ∃ rest, rest = n % g := ⟨_, rfl⟩
    have hn : n = g * low + rest := by rw [hlow, hrest]; exact (Nat.div_add_mod n g).symm
    have hr : rest < g := by rw [hrest]; exact Nat.mod_lt _ hg0
    rw [← hlow, ← hrest]
    clear hlow hrest
    subst hn
    rcases Nat.lt_trichotomy k low with h | h | h
    · obtain ⟨t, rfl⟩ : ∃ t, low = k + 1 + t := ⟨low - (k + 1), by omega⟩
      refine ⟨fun _ => .inl ?_, fun _ => by omega⟩
      have e1 : g * (k + 1 + t) = g * k + g + g * t := by rw [Nat.mul_add, Nat.mul_add, Nat.mul_one]
      have e2 : (2 * k + 1) * g = 2 * (g * k) + g := by rw [Nat.add_mul, Nat.one_mul, Nat.mul_assoc, Nat.mul_comm k g]
      omega
    · subst h
      have e2 : (2 * k + 1) * g = 2 * (g * k) + g := by rw [Nat.add_mul, Nat.one_mul, Nat.mul_assoc, Nat.mul_comm k g]
      rw [e2]
      by_cases h1 : g < 2 * rest
      · have hb : (decide (g < 2 * rest) || (g == 2 * rest && k % 2 == 1)) = true := by simp [h1]
        rw [hb]
        exact ⟨fun _ => .inl (by omega), fun _ => by simp⟩
      · by_cases h2 : g = 2 * rest
        · by_cases h3 : k % 2 = 1
          · have hb : (decide (g < 2 * rest) || (g == 2 * rest && k % 2 == 1)) = true := by simp [h2, h3]
            rw [hb]
            exact ⟨fun _ => .inr ⟨by omega, h3⟩, fun _ => by simp⟩
          · have hb : (decide (g < 2 * rest) || (g == 2 * rest && k % 2 == 1)) = false := by simp [h2, h3]
            rw [hb]
            refine ⟨fun h => by exfalso; have : (false : Bool).toNat = 0 := rfl; omega, fun h => ?_⟩
            rcases h with h | h
            · omega
            · exact absurd h.2 h3
        · have hb : (decide (g < 2 * rest) || (g == 2 * rest && k % 2 == 1)) = false := by simp [h1, h2]
          rw [hb]
          refine ⟨fun h => by exfalso; have : (false : Bool).toNat = 0 := rfl; omega, fun h => ?_⟩
          rcases h with h | h <;> omega
    · obtain ⟨t, rfl⟩ : ∃ t, k = low + 1 + t := ⟨k - (low + 1), by omega⟩
      have e2 : (2 * (low + 1 + t) + 1) * g = 2 * (g * low) + 3 * g + 2 * (g * t) := by
        rw [show 2 * (low + 1 + t) + 1 = 2 * low + 3 + 2 * t by omega, Nat.add_mul, Nat.add_mul, Nat.mul_assoc, Nat.mul_assoc, Nat.mul_comm low g, Nat.mul_comm t g]
      rw [e2]
      refine ⟨fun h => ?_, fun h => ?_⟩
      · exfalso
        have : (decide (g < 2 * rest) || (g == 2 * rest && low % 2 == 1)).toNat ≤ 1 := Bool.toNat_le _
        omega
      · exfalso
        rcases h with h | h <;> omega
  · rw [Nat.min_eq_right (by omega)]
    have h1 : n < 2 ^ (n.log2 + 1) := Nat.lt_log2_self
    have h2 : 2 * n < 2 ^ (n.log2 + 2) := by rw [Nat.pow_succ]; omega
    have h3 : 2 ^ (n.log2 + 2) ≤ 2 ^ d := Nat.pow_le_pow_right (by decide) (by omega)
    obtain ⟨g, hg⟩ : ∃ g, g = 2 ^ (n.log2 + 2) := ⟨_, rfl⟩
    rw [← hg] at h2 h3 ⊢
    have hb : (decide (g < 2 * (n % g)) || (g == 2 * (n % g) && n / g % 2 == 1)) = false := by
      rw [Nat.mod_eq_of_lt (by omega)]
      simp
      omega
    rw [hb, Nat.div_eq_of_lt (by omega)]
    have h4 : 2 ^ d ≤ (2 * k + 1) * 2 ^ d := Nat.le_mul_of_pos_left _ (by omega)
    refine ⟨fun h => by exfalso; have : (false : Bool).toNat = 0 := rfl; omega, fun h => ?_⟩
    rcases h with h | h <;> omega

section
variable (f : Format)
/-- A rung's number, in units of the format's least place. -/
def fval (r : Nat) : Nat := if r < f.binade then r else (f.binade + r % f.binade) * 2 ^ (r / f.binade - 1)
theorem binade_pos : 0 < f.binade := Nat.pow_pos (by decide)
theorem fval_form (e k : Nat) (h : (e = 0 ∧ k ≤ 2 * f.binade) ∨ (f.binade ≤ k ∧ k ≤ 2 * f.binade)) : fval f (e * f.binade + k) = k * 2 ^ e := by
  have hp := binade_pos f
  unfold fval
  obtain ⟨B, hB⟩ : ∃ B, B = f.binade := ⟨_, rfl⟩
  rw [← hB] at hp h ⊢
  by_cases hk : k < B
  · have he : e = 0 := by rcases h with h | h <;> omega
    subst he
    rw [if_pos (by omega)]
    simp
  · rw [if_neg (by omega)]
    by_cases h2 : k = 2 * B
    · subst h2
      have e1 : e * B + 2 * B = B * (e + 2) := by rw [Nat.mul_add, Nat.mul_comm e B, Nat.mul_comm 2 B]
      rw [e1, Nat.mul_mod_right, Nat.mul_div_cancel_left _ hp, show e + 2 - 1 = e + 1 by omega, Nat.pow_succ, Nat.add_zero, Nat.mul_comm (2 ^ e) 2, ← Nat.mul_assoc, Nat.mul_comm B 2]
    · obtain ⟨j, rfl⟩ : ∃ j, k = B + j := ⟨k - B, by omega⟩
      have hj : j < B := by rcases h with h | h <;> omega
      have e1 : e * B + (B + j) = B * (e + 1) + j := by rw [Nat.mul_add, Nat.mul_one, Nat.mul_comm e B, Nat.add_assoc]
      rw [e1, Nat.mul_add_mod, Nat.mod_eq_of_lt hj, Nat.mul_add_div hp, Nat.div_eq_of_lt hj, Nat.add_zero, Nat.add_sub_cancel]
/-- Each rung is one of a binade. -/
theorem rung_form (r : Nat) : ∃ e k, r = e * f.binade + k ∧ k < 2 * f.binade ∧ (e = 0 ∨ f.binade ≤ k) := by
  have hp := binade_pos f
  by_cases h : r < f.binade
  · exact ⟨0, r, by simp, by omega, .inl rfl⟩
  · refine ⟨r / f.binade - 1, f.binade + r % f.binade, ?_, ?_, .inr (by omega)⟩
    · have h1 : 1 ≤ r / f.binade := (Nat.le_div_iff_mul_le hp).2 (by omega)
      have h2 := Nat.div_add_mod r f.binade
      obtain ⟨q, hq⟩ : ∃ q, r / f.binade = q + 1 := ⟨r / f.binade - 1, by omega⟩
      rw [hq] at h2 ⊢
      rw [Nat.add_sub_cancel, Nat.mul_comm q]
      rw [Nat.mul_add, Nat.mul_one] at h2
      omega
    · have := Nat.mod_lt r hp
      omega
theorem fval_succ (r : Nat) : fval f r < fval f (r + 1) := by
  obtain ⟨e, k, rfl, h1, h2⟩ := rung_form f r
  rw [Nat.add_assoc, fval_form f e k (by rcases h2 with h2 | h2 <;> omega), fval_form f e (k + 1) (by rcases h2 with h2 | h2 <;> omega)]
  exact Nat.mul_lt_mul_of_pos_right (by omega) (Nat.pow_pos (by decide))
theorem fval_lt {r r' : Nat} (h : r < r') : fval f r < fval f r' := by
  obtain ⟨t, rfl⟩ : ∃ t, r' = r + 1 + t := ⟨r' - (r + 1), by omega⟩
  clear h
  induction t with
  | zero => exact fval_succ f r
  | succ t ih => exact Nat.lt_trans ih (fval_succ f _)
theorem fval_le {r r' : Nat} (h : r ≤ r') : fval f r ≤ fval f r' := by
  rcases Nat.lt_or_eq_of_le h with h | h
  · exact Nat.le_of_lt (fval_lt f h)
  · rw [h]; exact Nat.le_refl _
theorem fval_zero : fval f 0 = 0 := by unfold fval; rw [if_pos (binade_pos f)]
end
end Go.Proofs.Ytnppfibojcgkmaa
