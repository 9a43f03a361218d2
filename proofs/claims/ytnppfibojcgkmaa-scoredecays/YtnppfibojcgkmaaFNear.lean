import Derived.Test.YtnppfibojcgkmaaFMath
namespace Go.Proofs.Ytnppfibojcgkmaa
open Ieee

theorem pow_cancel {a b c : Nat} : a * 2 ^ c < b * 2 ^ c ↔ a < b := Nat.mul_lt_mul_right (Nat.pow_pos (by decide))
theorem pow_cancel_eq {a b c : Nat} : a * 2 ^ c = b * 2 ^ c ↔ a = b := ⟨fun h => Nat.eq_of_mul_eq_mul_right (Nat.pow_pos (by decide)) h, fun h => by rw [h]⟩
theorem pow_cancel_le {a b c : Nat} : a * 2 ^ c ≤ b * 2 ^ c ↔ a ≤ b := ⟨fun h => Nat.le_of_mul_le_mul_right h (Nat.pow_pos (by decide)), fun h => Nat.mul_le_mul_right _ h⟩

section
variable (f : Format)
theorem near_zero (neg : Bool) (place : Int) : f.nearest neg 0 place = f.word neg 0 := by unfold Format.nearest; rw [if_pos rfl]
/-- When the nearest word stands above a rung: the number is above the midst between the rung and the next one, or in the midst, and the next one is the even one. -/
theorem near_ge (hF : 1 ≤ f.fractionBits) (mag : Nat) (place : Int) (r : Nat) (hr : r < f.infRung) :
    r + 1 ≤ f.nearest false mag place ↔
      (fval f r + fval f (r + 1)) * 2 ^ (f.leastPlace - place).toNat < 2 * (mag * 2 ^ (place - f.leastPlace).toNat) ∨
      ((fval f r + fval f (r + 1)) * 2 ^ (f.leastPlace - place).toNat = 2 * (mag * 2 ^ (place - f.leastPlace).toNat) ∧ r % 2 = 1) := by
  by_cases hm : mag = 0
  · subst hm
    rw [near_zero]
    have h1 := fval_succ f r
    have h2 : 0 < (fval f r + fval f (r + 1)) * 2 ^ (f.leastPlace - place).toNat := Nat.mul_pos (by omega) (Nat.pow_pos (by decide))
    show r + 1 ≤ 0 ↔ _
    rw [Nat.zero_mul]
    constructor
    · intro h; omega
    · rintro (h | ⟨h, _⟩) <;> omega
  unfold Format.nearest
  rw [if_neg hm]
  simp only [Format.word, Bool.false_eq_true, if_false, Nat.shiftLeft_eq]
  obtain ⟨LP, hLP⟩ : ∃ LP, LP = f.leastPlace := ⟨_, rfl⟩
  obtain ⟨F, hF'⟩ : ∃ F, F = f.fractionBits := ⟨_, rfl⟩
  have hB : f.binade = 2 ^ F := by rw [hF']; rfl
  rw [← hLP, ← hF']
  rw [← hF'] at hF
  obtain ⟨last, hlast⟩ : ∃ last, last = max (place + (mag.log2 : Int) - (F : Int)) LP := ⟨_, rfl⟩
  rw [← hlast]
  obtain ⟨e, he⟩ : ∃ e, e = (last - LP).toNat := ⟨_, rfl⟩
  obtain ⟨p1, hp1⟩ : ∃ p1, p1 = (place - last).toNat := ⟨_, rfl⟩
  obtain ⟨d, hd⟩ : ∃ d, d = (last - place).toNat := ⟨_, rfl⟩
  obtain ⟨al, hal⟩ : ∃ al, al = (place - LP).toNat := ⟨_, rfl⟩
  obtain ⟨s, hs⟩ : ∃ s, s = (LP - place).toNat := ⟨_, rfl⟩
  rw [← he, ← hp1, ← hd, ← hal, ← hs]
  have hsum : p1 + s + e = al + d := by omega
  have hbits : mag.log2 + p1 ≤ F + d := by omega
  have hbits2 : 1 ≤ e → mag.log2 + p1 = F + d := by omega
  obtain ⟨kept, hkept⟩ : ∃ kept, kept = Toward.even.cut false (mag * 2 ^ p1) d := ⟨_, rfl⟩
  have hcut : ∀ k, k + 1 ≤ kept ↔ (2 * k + 1) * 2 ^ d < 2 * (mag * 2 ^ p1) ∨ ((2 * k + 1) * 2 ^ d = 2 * (mag * 2 ^ p1) ∧ k % 2 = 1) := fun k => by rw [hkept]; exact cut_ge false _ d k
  rw [← hkept]
  clear hlast he hp1 hd hal hs hkept hLP hF'
  have hBp : 0 < f.binade := binade_pos f
  have hBe : f.binade % 2 = 0 := by
    obtain ⟨F', rfl⟩ : ∃ F', F = F' + 1 := ⟨F - 1, by omega⟩
    rw [hB, Nat.pow_succ]; omega
  have H1 : mag * 2 ^ p1 < 2 * f.binade * 2 ^ d := by
    have h1 : mag < 2 ^ (mag.log2 + 1) := Nat.lt_log2_self
    calc mag * 2 ^ p1 < 2 ^ (mag.log2 + 1) * 2 ^ p1 := pow_cancel.2 h1
      _ = 2 ^ (mag.log2 + p1 + 1) := by rw [← Nat.pow_add]; congr 1; omega
      _ ≤ 2 ^ (F + d + 1) := Nat.pow_le_pow_right (by decide) (by omega)
      _ = 2 * f.binade * 2 ^ d := by rw [hB, show F + d + 1 = 1 + F + d by omega, Nat.pow_add, Nat.pow_add]
  have H2 : 1 ≤ e → f.binade * 2 ^ d ≤ mag * 2 ^ p1 := fun h => by
    have h1 : 2 ^ mag.log2 ≤ mag := Nat.log2_self_le hm
    calc f.binade * 2 ^ d = 2 ^ (mag.log2 + p1) := by rw [hB, ← Nat.pow_add, hbits2 h]
      _ = 2 ^ mag.log2 * 2 ^ p1 := Nat.pow_add _ _ _
      _ ≤ mag * 2 ^ p1 := Nat.mul_le_mul_right _ h1
  obtain ⟨N, hN⟩ : ∃ N, N = mag * 2 ^ p1 := ⟨_, rfl⟩
  -- the same in units of the least place
  have hscale : ∀ c : Nat, (c * 2 ^ d < 2 * N ↔ c * 2 ^ e * 2 ^ s < 2 * (mag * 2 ^ al)) ∧ (c * 2 ^ d = 2 * N ↔ c * 2 ^ e * 2 ^ s = 2 * (mag * 2 ^ al)) := fun c => by
    have e1 : c * 2 ^ d * 2 ^ (e + s) = c * 2 ^ e * 2 ^ s * 2 ^ d := by
      rw [Nat.pow_add, Nat.mul_assoc, Nat.mul_assoc c, Nat.mul_assoc c]
      congr 1
      rw [Nat.mul_comm]
    have e2 : 2 * N * 2 ^ (e + s) = 2 * (mag * 2 ^ al) * 2 ^ d := by
      rw [hN, Nat.mul_assoc 2, Nat.mul_assoc 2, Nat.mul_assoc mag, Nat.mul_assoc mag, ← Nat.pow_add, ← Nat.pow_add, show p1 + (e + s) = al + d by omega]
    exact ⟨by rw [← pow_cancel (c := e + s), e1, e2, pow_cancel], by rw [← pow_cancel_eq (c := e + s), e1, e2, pow_cancel_eq]⟩
  rw [← hN] at hcut H1 H2
  have hkle : kept ≤ 2 * f.binade := by
    rcases Nat.lt_or_ge (2 * f.binade) kept with h | h
    · exfalso
      have h0 : 0 < 2 ^ d := Nat.pow_pos (by decide)
      obtain ⟨D, hDD⟩ : ∃ D, D = 2 ^ d := ⟨_, rfl⟩
      rw [← hDD] at h0 H1 hcut
      rcases (hcut (2 * f.binade)).1 h with h1 | ⟨h1, _⟩
      · have : (2 * (2 * f.binade) + 1) * D = 2 * (2 * f.binade * D) + D := by rw [Nat.add_mul, Nat.one_mul, Nat.mul_assoc 2 (2 * f.binade)]
        omega
      · have : (2 * (2 * f.binade) + 1) * D = 2 * (2 * f.binade * D) + D := by rw [Nat.add_mul, Nat.one_mul, Nat.mul_assoc 2 (2 * f.binade)]
        omega
    · exact h
  have hkge : 1 ≤ e → f.binade ≤ kept := fun h => by
    have h2 := H2 h
    have : f.binade - 1 + 1 ≤ kept := (hcut (f.binade - 1)).2 (.inl (by
      have h3 : (2 * (f.binade - 1) + 1) * 2 ^ d + 2 ^ d = 2 * (f.binade * 2 ^ d) := by
        rw [← Nat.succ_mul, Nat.succ_eq_add_one, show 2 * (f.binade - 1) + 1 + 1 = 2 * f.binade by omega, Nat.mul_assoc]
      have h4 : 0 < 2 ^ d := Nat.pow_pos (by decide)
      omega))
    omega
  have hmin : r + 1 ≤ min (e * f.binade + kept) f.infRung ↔ r + 1 ≤ e * f.binade + kept := by omega
  rw [hmin]
  -- where the rung lies
  by_cases hlow : 1 ≤ e ∧ r < e * f.binade + f.binade
  · have h1 := hkge hlow.1
    refine ⟨fun _ => .inl ?_, fun _ => by omega⟩
    have hv : fval f (r + 1) ≤ f.binade * 2 ^ e := by
      rw [← fval_form f e f.binade (by omega)]
      exact fval_le f (by omega)
    have hv2 := fval_succ f r
    have h2 : f.binade * 2 ^ e * 2 ^ s ≤ mag * 2 ^ al := by
      have := H2 hlow.1
      have h5 : ¬ (2 * N < (2 * f.binade) * 2 ^ d) := by rw [Nat.mul_assoc]; omega
      have h6 : (2 * f.binade) * 2 ^ d < 2 * N ∨ (2 * f.binade) * 2 ^ d = 2 * N := by omega
      have h7 : 2 * f.binade * 2 ^ e * 2 ^ s = 2 * (f.binade * 2 ^ e * 2 ^ s) := by rw [Nat.mul_assoc 2, Nat.mul_assoc 2]
      rcases h6 with h6 | h6
      · have := (hscale (2 * f.binade)).1.1 h6; omega
      · have := (hscale (2 * f.binade)).2.1 h6; omega
    calc (fval f r + fval f (r + 1)) * 2 ^ s < (2 * (f.binade * 2 ^ e)) * 2 ^ s := pow_cancel.2 (by omega)
      _ = 2 * (f.binade * 2 ^ e * 2 ^ s) := Nat.mul_assoc _ _ _
      _ ≤ 2 * (mag * 2 ^ al) := by omega
  · by_cases hhigh : e * f.binade + 2 * f.binade ≤ r
    · refine ⟨fun h => by omega, fun h => ?_⟩
      exfalso
      have hv : 2 * f.binade * 2 ^ e ≤ fval f r := by
        rw [← fval_form f e (2 * f.binade) (by omega)]
        exact fval_le f hhigh
      have hv2 := fval_succ f r
      have h2 : mag * 2 ^ al < 2 * f.binade * 2 ^ e * 2 ^ s := by
        have h5 : ¬ ((2 * (2 * f.binade)) * 2 ^ d < 2 * N) := by rw [Nat.mul_assoc]; omega
        have h6 : ¬ ((2 * (2 * f.binade)) * 2 ^ d = 2 * N) := by rw [Nat.mul_assoc]; omega
        rw [(hscale _).1] at h5
        rw [(hscale _).2] at h6
        have h7 : 2 * (2 * f.binade) * 2 ^ e * 2 ^ s = 2 * (2 * f.binade * 2 ^ e * 2 ^ s) := by rw [Nat.mul_assoc 2, Nat.mul_assoc 2]
        omega
      have h8 : 2 * (2 * f.binade * 2 ^ e * 2 ^ s) < (fval f r + fval f (r + 1)) * 2 ^ s := by
        rw [← Nat.mul_assoc]
        exact pow_cancel.2 (by omega)
      rcases h with h | ⟨h, _⟩ <;> omega
    · obtain ⟨k, rfl⟩ : ∃ k, r = e * f.binade + k := ⟨r - e * f.binade, by
        rcases Nat.eq_zero_or_pos e with h | h
        · subst h; omega
        · have : e * f.binade + f.binade ≤ r := by
            rcases Nat.lt_or_ge r (e * f.binade + f.binade) with h' | h'
            · exact absurd ⟨h, h'⟩ hlow
            · exact h'
          omega⟩
      have hk2 : k < 2 * f.binade := by omega
      have hk1 : e = 0 ∨ f.binade ≤ k := by
        rcases Nat.eq_zero_or_pos e with h | h
        · exact .inl h
        · right
          rcases Nat.lt_or_ge k f.binade with h' | h'
          · exact absurd ⟨h, by omega⟩ hlow
          · exact h'
      have hpar : (e * f.binade + k) % 2 = k % 2 := by
        rw [Nat.add_mod, Nat.mul_mod, hBe]
        simp
      rw [Nat.add_assoc, fval_form f e k (by omega), fval_form f e (k + 1) (by omega), hpar]
      have e3 : (k * 2 ^ e + (k + 1) * 2 ^ e) = (2 * k + 1) * 2 ^ e := by rw [← Nat.add_mul]; congr 1; omega
      rw [e3, ← (hscale (2 * k + 1)).1, ← (hscale (2 * k + 1)).2, ← hcut k]
      omega
end
end Go.Proofs.Ytnppfibojcgkmaa
