import Ieee.Arith
import Derived.Laws.FloatBits
namespace Go.Proofs.Ytpbinkmeldkehaa
open Ieee

/-- Half and even: when so much, or more, comes of it. -/
theorem cut_ge (neg : Bool) (n d k : Nat) : k + 1 ≤ Toward.even.cut neg n d ↔ (2 * k + 1) * 2 ^ d < 2 * n ∨ ((2 * k + 1) * 2 ^ d = 2 * n ∧ k % 2 = 1) := by
  unfold Toward.cut
  simp only [Nat.one_shiftLeft]
  by_cases hd : d ≤ n.log2 + 2
  · rw [Nat.min_eq_left hd]
    obtain ⟨g, hg⟩ : ∃ g, g = 2 ^ d := ⟨_, rfl⟩
    have hg0 : 0 < g := by rw [hg]; exact Nat.pow_pos (by decide)
    rw [← hg]
    obtain ⟨low, hlow⟩ : ∃ low, low = n / g := ⟨_, rfl⟩
    obtain ⟨rest, hrest⟩ : ∃ rest, rest = n % g := ⟨_, rfl⟩
    have hn : n = g * low + rest := by rw [hlow, hrest]; exact (Nat.div_add_mod n g).symm
    have hr : rest < g := by rw [hrest]; exact Nat.mod_lt _ hg0
    rw [← hlow, ← hrest]
    clear hlow hrest
    subst hn
    rcases Nat.lt_trichotomy k low with h | h | h
    · obtain ⟨t, rfl⟩ : ∃ t, low = k + 1 + t := ⟨low - (k + 1), by omega⟩
      refine ⟨fun _ => .inl ?_, fun _ => by omega⟩
      have e1 : g * (k + 1 + t) = g * k + g + g * t := by rw [Nat.mul_add, Nat.mul_add, Nat.mul_one]
      have e2 : (2 * k + 1) * g = 2 * (g * k) + g := by rw [Nat.add_mul, Nat.one_mul, Nat.mul_assoc, Nat.mul_comm k g]
      omega
    · subst h
      have e2 : (2 * k + 1) * g = 2 * (g * k) + g := by rw [Nat.add_mul, Nat.one_mul, Nat.mul_assoc, Nat.mul_comm k g]
      rw [e2]
      by_cases h1 : g < 2 * rest
      · have hb : (decide (g < 2 * rest) || (g == 2 * rest && k % 2 == 1)) = true := by simp [h1]
        rw [hb]
        exact ⟨fun _ => .inl (by omega), fun _ => by simp⟩
      · by_cases h2 : g = 2 * rest
        · by_cases h3 : k % 2 = 1
          · have hb : (decide (g < 2 * rest) || (g == 2 * rest && k % 2 == 1)) = true := by simp [h2, h3]
            rw [hb]
            exact ⟨fun _ => .inr ⟨by omega, h3⟩, fun _ => by simp⟩
          · have hb : (decide (g < 2 * rest) || (g == 2 * rest && k % 2 == 1)) = false := by simp [h2, h3]
            rw [hb]
            refine ⟨fun h => by exfalso; have : (false : Bool).toNat = 0 := rfl; omega, fun h => ?_⟩
            rcases h with h | h
            · omega
            · exact absurd h.2 h3
        · have hb : (decide (g < 2 * rest) || (g == 2 * rest && k % 2 == 1)) = false := by simp [h1, h2]
          rw [hb]
          refine ⟨fun h => by exfalso; have : (false : Bool).toNat = 0 := rfl; omega, fun h => ?_⟩
          rcases h with h | h <;> omega
    · obtain ⟨t, rfl⟩ : ∃ t, k = low + 1 + t := ⟨k - (low + 1), by omega⟩
      have e2 : (2 * (low + 1 + t) + 1) * g = 2 * (g * low) + 3 * g + 2 * (g * t) := by
        rw [show 2 * (low + 1 + t) + 1 = 2 * low + 3 + 2 * t by omega, Nat.add_mul, Nat.add_mul, Nat.mul_assoc, Nat.mul_assoc, Nat.mul_comm low g, Nat.mul_comm t g]
      rw [e2]
      refine ⟨fun h => ?_, fun h => ?_⟩
      · exfalso
        have : (decide (g < 2 * rest) || (g == 2 * rest && low % 2 == 1)).toNat ≤ 1 := Bool.toNat_le _
        omega
      · exfalso
        rcases h with h | h <;> omega
  · rw [Nat.min_eq_right (by omega)]
    have h1 : n < 2 ^ (n.log2 + 1) := Nat.lt_log2_self
    have h2 : 2 * n < 2 ^ (n.log2 + 2) := by rw [Nat.pow_succ]; omega
    have h3 : 2 ^ (n.log2 + 2) ≤ 2 ^ d := Nat.pow_le_pow_right (by decide) (by omega)
    obtain ⟨g, hg⟩ : ∃ g, g = 2 ^ (n.log2 + 2) := ⟨_, rfl⟩
    rw [← hg] at h2 h3 ⊢
    have hb : (decide (g < 2 * (n % g)) || (g == 2 * (n % g) && n / g % 2 == 1)) = false := by
      rw [Nat.mod_eq_of_lt (by omega)]
      simp
      omega
    rw [hb, Nat.div_eq_of_lt (by omega)]
    have h4 : 2 ^ d ≤ (2 * k + 1) * 2 ^ d := Nat.le_mul_of_pos_left _ (by omega)
    refine ⟨fun h => by exfalso; have : (false : Bool).toNat = 0 := rfl; omega, fun h => ?_⟩
    rcases h with h | h <;> omega

section
variable (f : Format)
/-- A rung's number, in units of the format's least place. -/
def fval (r : Nat) : Nat := if r < f.binade then r else (f.binade + r % f.binade) * 2 ^ (r / f.binade - 1)
theorem binade_pos : 0 < f.binade := Nat.pow_pos (by decide)
theorem fval_form (e k : Nat) (h : (e = 0 ∧ k ≤ 2 * f.binade) ∨ (f.binade ≤ k ∧ k ≤ 2 * f.binade)) : fval f (e * f.binade + k) = k * 2 ^ e := by
  have hp := binade_pos f
  unfold fval
  obtain ⟨B, hB⟩ : ∃ B, B = f.binade := ⟨_, rfl⟩
  rw [← hB] at hp h ⊢
  by_cases hk : k < B
  · have he : e = 0 := by rcases h with h | h <;> omega
    subst he
    rw [if_pos (by omega)]
    simp
  · rw [if_neg (by omega)]
    by_cases h2 : k = 2 * B
    · subst h2
      have e1 : e * B + 2 * B = B * (e + 2) := by rw [Nat.mul_add, Nat.mul_comm e B, Nat.mul_comm 2 B]
      rw [e1, Nat.mul_mod_right, Nat.mul_div_cancel_left _ hp, show e + 2 - 1 = e + 1 by omega, Nat.pow_succ, Nat.add_zero, Nat.mul_comm (2 ^ e) 2, ← Nat.mul_assoc, Nat.mul_comm B 2]
    · obtain ⟨j, rfl⟩ : ∃ j, k = B + j := ⟨k - B, by omega⟩
      have hj : j < B := by rcases h with h | h <;> omega
      have e1 : e * B + (B + j) = B * (e + 1) + j := by rw [Nat.mul_add, Nat.mul_one, Nat.mul_comm e B, Nat.add_assoc]
      rw [e1, Nat.mul_add_mod, Nat.mod_eq_of_lt hj, Nat.mul_add_div hp, Nat.div_eq_of_lt hj, Nat.add_zero, Nat.add_sub_cancel]
/-- Each rung is one of a binade. -/
theorem rung_form (r : Nat) : ∃ e k, r = e * f.binade + k ∧ k < 2 * f.binade ∧ (e = 0 ∨ f.binade ≤ k) := by
  have hp := binade_pos f
  by_cases h : r < f.binade
  · exact ⟨0, r, by simp, by omega, .inl rfl⟩
  · refine ⟨r / f.binade - 1, f.binade + r % f.binade, ?_, ?_, .inr (by omega)⟩
    · have h1 : 1 ≤ r / f.binade := (Nat.le_div_iff_mul_le hp).2 (by omega)
      have h2 := Nat.div_add_mod r f.binade
      obtain ⟨q, hq⟩ : ∃ q, r / f.binade = q + 1 := ⟨r / f.binade - 1, by omega⟩
      rw [hq] at h2 ⊢
      rw [Nat.add_sub_cancel, Nat.mul_comm q]
      rw [Nat.mul_add, Nat.mul_one] at h2
      omega
    · have := Nat.mod_lt r hp
      omega
theorem fval_succ (r : Nat) : fval f r < fval f (r + 1) := by
  obtain ⟨e, k, rfl, h1, h2⟩ := rung_form f r
  rw [Nat.add_assoc, fval_form f e k (by rcases h2 with h2 | h2 <;> omega), fval_form f e (k + 1) (by rcases h2 with h2 | h2 <;> omega)]
  exact Nat.mul_lt_mul_of_pos_right (by omega) (Nat.pow_pos (by decide))
theorem fval_lt {r r' : Nat} (h : r < r') : fval f r < fval f r' := by
  obtain ⟨t, rfl⟩ : ∃ t, r' = r + 1 + t := ⟨r' - (r + 1), by omega⟩
  clear h
  induction t with
  | zero => exact fval_succ f r
  | succ t ih => exact Nat.lt_trans ih (fval_succ f _)
theorem fval_le {r r' : Nat} (h : r ≤ r') : fval f r ≤ fval f r' := by
  rcases Nat.lt_or_eq_of_le h with h | h
  · exact Nat.le_of_lt (fval_lt f h)
  · rw [h]; exact Nat.le_refl _
theorem fval_zero : fval f 0 = 0 := by unfold fval; rw [if_pos (binade_pos f)]
end
end Go.Proofs.Ytpbinkmeldkehaa
namespace Go.Proofs.Ytpbinkmeldkehaa
open Ieee

theorem pow_cancel {a b c : Nat} : a * 2 ^ c < b * 2 ^ c ↔ a < b := Nat.mul_lt_mul_right (Nat.pow_pos (by decide))
theorem pow_cancel_eq {a b c : Nat} : a * 2 ^ c = b * 2 ^ c ↔ a = b := ⟨fun h => Nat.eq_of_mul_eq_mul_right (Nat.pow_pos (by decide)) h, fun h => by rw [h]⟩
section
variable (f : Format)
theorem near_zero (neg : Bool) (place : Int) : f.nearest neg 0 place = f.word neg 0 := by unfold Format.nearest; rw [if_pos rfl]
/-- When the nearest word stands above a rung: the number is above the midst between the rung and the next one, or in the midst, and the next one is the even one. -/
theorem near_ge (hF : 1 ≤ f.fractionBits) (mag : Nat) (place : Int) (r : Nat) (hr : r < f.infRung) :
    r + 1 ≤ f.nearest false mag place ↔
      (fval f r + fval f (r + 1)) * 2 ^ (f.leastPlace - place).toNat < 2 * (mag * 2 ^ (place - f.leastPlace).toNat) ∨
      ((fval f r + fval f (r + 1)) * 2 ^ (f.leastPlace - place).toNat = 2 * (mag * 2 ^ (place - f.leastPlace).toNat) ∧ r % 2 = 1) := by
  by_cases hm : mag = 0
  · subst hm
    rw [near_zero]
    have h1 := fval_succ f r
    have h2 : 0 < (fval f r + fval f (r + 1)) * 2 ^ (f.leastPlace - place).toNat := Nat.mul_pos (by omega) (Nat.pow_pos (by decide))
    show r + 1 ≤ 0 ↔ _
    rw [Nat.zero_mul]
    constructor
    · intro h; omega
    · rintro (h | ⟨h, _⟩) <;> omega
  unfold Format.nearest
  rw [if_neg hm]
  simp only [Format.word, Bool.false_eq_true, if_false, Nat.shiftLeft_eq]
  obtain ⟨LP, hLP⟩ : ∃ LP, LP = f.leastPlace := ⟨_, rfl⟩
  obtain ⟨F, hF'⟩ : ∃ F, F = f.fractionBits := ⟨_, rfl⟩
  have hB : f.binade = 2 ^ F := by rw [hF']; rfl
  rw [← hLP, ← hF']
  rw [← hF'] at hF
  obtain ⟨last, hlast⟩ : ∃ last, last = max (place + (mag.log2 : Int) - (F : Int)) LP := ⟨_, rfl⟩
  rw [← hlast]
  obtain ⟨e, he⟩ : ∃ e, e = (last - LP).toNat := ⟨_, rfl⟩
  obtain ⟨p1, hp1⟩ : ∃ p1, p1 = (place - last).toNat := ⟨_, rfl⟩
  obtain ⟨d, hd⟩ : ∃ d, d = (last - place).toNat := ⟨_, rfl⟩
  obtain ⟨al, hal⟩ : ∃ al, al = (place - LP).toNat := ⟨_, rfl⟩
  obtain ⟨s, hs⟩ : ∃ s, s = (LP - place).toNat := ⟨_, rfl⟩
  rw [← he, ← hp1, ← hd, ← hal, ← hs]
  have hsum : p1 + s + e = al + d := by omega
  have hbits : mag.log2 + p1 ≤ F + d := by omega
  have hbits2 : 1 ≤ e → mag.log2 + p1 = F + d := by omega
  obtain ⟨kept, hkept⟩ : ∃ kept, kept = Toward.even.cut false (mag * 2 ^ p1) d := ⟨_, rfl⟩
  have hcut : ∀ k, k + 1 ≤ kept ↔ (2 * k + 1) * 2 ^ d < 2 * (mag * 2 ^ p1) ∨ ((2 * k + 1) * 2 ^ d = 2 * (mag * 2 ^ p1) ∧ k % 2 = 1) := fun k => by rw [hkept]; exact cut_ge false _ d k
  rw [← hkept]
  clear hlast he hp1 hd hal hs hkept hLP hF'
  have hBp : 0 < f.binade := binade_pos f
  have hBe : f.binade % 2 = 0 := by
    obtain ⟨F', rfl⟩ : ∃ F', F = F' + 1 := ⟨F - 1, by omega⟩
    rw [hB, Nat.pow_succ]; omega
  have H1 : mag * 2 ^ p1 < 2 * f.binade * 2 ^ d := by
    have h1 : mag < 2 ^ (mag.log2 + 1) := Nat.lt_log2_self
    calc mag * 2 ^ p1 < 2 ^ (mag.log2 + 1) * 2 ^ p1 := pow_cancel.2 h1
      _ = 2 ^ (mag.log2 + p1 + 1) := by rw [← Nat.pow_add]; congr 1; omega
      _ ≤ 2 ^ (F + d + 1) := Nat.pow_le_pow_right (by decide) (by omega)
      _ = 2 * f.binade * 2 ^ d := by rw [hB, show F + d + 1 = 1 + F + d by omega, Nat.pow_add, Nat.pow_add]
  have H2 : 1 ≤ e → f.binade * 2 ^ d ≤ mag * 2 ^ p1 := fun h => by
    have h1 : 2 ^ mag.log2 ≤ mag := Nat.log2_self_le hm
    calc f.binade * 2 ^ d = 2 ^ (mag.log2 + p1) := by rw [hB, ← Nat.pow_add, hbits2 h]
      _ = 2 ^ mag.log2 * 2 ^ p1 := Nat.pow_add _ _ _
      _ ≤ mag * 2 ^ p1 := Nat.mul_le_mul_right _ h1
  obtain ⟨N, hN⟩ : ∃ N, N = mag * 2 ^ p1 := ⟨_, rfl⟩
  -- the same in units of the least place
  have hscale : ∀ c : Nat, (c * 2 ^ d < 2 * N ↔ c * 2 ^ e * 2 ^ s < 2 * (mag * 2 ^ al)) ∧ (c * 2 ^ d = 2 * N ↔ c * 2 ^ e * 2 ^ s = 2 * (mag * 2 ^ al)) := fun c => by
    have e1 : c * 2 ^ d * 2 ^ (e + s) = c * 2 ^ e * 2 ^ s * 2 ^ d := by
      rw [Nat.pow_add, Nat.mul_assoc, Nat.mul_assoc c, Nat.mul_assoc c]
      congr 1
      rw [Nat.mul_comm]
    have e2 : 2 * N * 2 ^ (e + s) = 2 * (mag * 2 ^ al) * 2 ^ d := by
      rw [hN, Nat.mul_assoc 2, Nat.mul_assoc 2, Nat.mul_assoc mag, Nat.mul_assoc mag, ← Nat.pow_add, ← Nat.pow_add, show p1 + (e + s) = al + d by omega]
    exact ⟨by rw [← pow_cancel (c := e + s), e1, e2, pow_cancel], by rw [← pow_cancel_eq (c := e + s), e1, e2, pow_cancel_eq]⟩
  rw [← hN] at hcut H1 H2
  have hkle : kept ≤ 2 * f.binade := by
    rcases Nat.lt_or_ge (2 * f.binade) kept with h | h
    · exfalso
      have h0 : 0 < 2 ^ d := Nat.pow_pos (by decide)
      obtain ⟨D, hDD⟩ : ∃ D, D = 2 ^ d := ⟨_, rfl⟩
      rw [← hDD] at h0 H1 hcut
      rcases (hcut (2 * f.binade)).1 h with h1 | ⟨h1, _⟩
      · have : (2 * (2 * f.binade) + 1) * D = 2 * (2 * f.binade * D) + D := by rw [Nat.add_mul, Nat.one_mul, Nat.mul_assoc 2 (2 * f.binade)]
        omega
      · have : (2 * (2 * f.binade) + 1) * D = 2 * (2 * f.binade * D) + D := by rw [Nat.add_mul, Nat.one_mul, Nat.mul_assoc 2 (2 * f.binade)]
        omega
    · exact h
  have hkge : 1 ≤ e → f.binade ≤ kept := fun h => by
    have h2 := H2 h
    have : f.binade - 1 + 1 ≤ kept := (hcut (f.binade - 1)).2 (.inl (by
      have h3 : (2 * (f.binade - 1) + 1) * 2 ^ d + 2 ^ d = 2 * (f.binade * 2 ^ d) := by
        rw [← Nat.succ_mul, Nat.succ_eq_add_one, show 2 * (f.binade - 1) + 1 + 1 = 2 * f.binade by omega, Nat.mul_assoc]
      have h4 : 0 < 2 ^ d := Nat.pow_pos (by decide)
      omega))
    omega
  have hmin : r + 1 ≤ min (e * f.binade + kept) f.infRung ↔ r + 1 ≤ e * f.binade + kept := by omega
  rw [hmin]
  -- where the rung lies
  by_cases hlow : 1 ≤ e ∧ r < e * f.binade + f.binade
  · have h1 := hkge hlow.1
    refine ⟨fun _ => .inl ?_, fun _ => by omega⟩
    have hv : fval f (r + 1) ≤ f.binade * 2 ^ e := by
      rw [← fval_form f e f.binade (by omega)]
      exact fval_le f (by omega)
    have hv2 := fval_succ f r
    have h2 : f.binade * 2 ^ e * 2 ^ s ≤ mag * 2 ^ al := by
      have := H2 hlow.1
      have h5 : ¬ (2 * N < (2 * f.binade) * 2 ^ d) := by rw [Nat.mul_assoc]; omega
      have h6 : (2 * f.binade) * 2 ^ d < 2 * N ∨ (2 * f.binade) * 2 ^ d = 2 * N := by omega
      have h7 : 2 * f.binade * 2 ^ e * 2 ^ s = 2 * (f.binade * 2 ^ e * 2 ^ s) := by rw [Nat.mul_assoc 2, Nat.mul_assoc 2]
      rcases h6 with h6 | h6
      · have := (hscale (2 * f.binade)).1.1 h6; omega
      · have := (hscale (2 * f.binade)).2.1 h6; omega
    calc (fval f r + fval f (r + 1)) * 2 ^ s < (2 * (f.binade * 2 ^ e)) * 2 ^ s := pow_cancel.2 (by omega)
      _ = 2 * (f.binade * 2 ^ e * 2 ^ s) := Nat.mul_assoc _ _ _
      _ ≤ 2 * (mag * 2 ^ al) := by omega
  · by_cases hhigh : e * f.binade + 2 * f.binade ≤ r
    · refine ⟨fun h => by omega, fun h => ?_⟩
      exfalso
      have hv : 2 * f.binade * 2 ^ e ≤ fval f r := by
        rw [← fval_form f e (2 * f.binade) (by omega)]
        exact fval_le f hhigh
      have hv2 := fval_succ f r
      have h2 : mag * 2 ^ al < 2 * f.binade * 2 ^ e * 2 ^ s := by
        have h5 : ¬ ((2 * (2 * f.binade)) * 2 ^ d < 2 * N) := by rw [Nat.mul_assoc]; omega
        have h6 : ¬ ((2 * (2 * f.binade)) * 2 ^ d = 2 * N) := by rw [Nat.mul_assoc]; omega
        rw [(hscale _).1] at h5
        rw [(hscale _).2] at h6
        have h7 : 2 * (2 * f.binade) * 2 ^ e * 2 ^ s = 2 * (2 * f.binade * 2 ^ e * 2 ^ s) := by rw [Nat.mul_assoc 2, Nat.mul_assoc 2]
        omega
      have h8 : 2 * (2 * f.binade * 2 ^ e * 2 ^ s) < (fval f r + fval f (r + 1)) * 2 ^ s := by
        rw [← Nat.mul_assoc]
        exact pow_cancel.2 (by omega)
      rcases h with h | ⟨h, _⟩ <;> omega
    · obtain ⟨k, rfl⟩ : ∃ k, r = e * f.binade + k := ⟨r - e * f.binade, by
        rcases Nat.eq_zero_or_pos e with h | h
        · subst h; omega
        · have : e * f.binade + f.binade ≤ r := by
            rcases Nat.lt_or_ge r (e * f.binade + f.binade) with h' | h'
            · exact absurd ⟨h, h'⟩ hlow
            · exact h'
          omega⟩
      have hk2 : k < 2 * f.binade := by omega
      have hk1 : e = 0 ∨ f.binade ≤ k := by
        rcases Nat.eq_zero_or_pos e with h | h
        · exact .inl h
        · right
          rcases Nat.lt_or_ge k f.binade with h' | h'
          · exact absurd ⟨h, by omega⟩ hlow
          · exact h'
      have hpar : (e * f.binade + k) % 2 = k % 2 := by
        rw [Nat.add_mod, Nat.mul_mod, hBe]
        simp
      rw [Nat.add_assoc, fval_form f e k (by omega), fval_form f e (k + 1) (by omega), hpar]
      have e3 : (k * 2 ^ e + (k + 1) * 2 ^ e) = (2 * k + 1) * 2 ^ e := by rw [← Nat.add_mul]; congr 1; omega
      rw [e3, ← (hscale (2 * k + 1)).1, ← (hscale (2 * k + 1)).2, ← hcut k]
      omega
end
end Go.Proofs.Ytpbinkmeldkehaa
namespace Go.Proofs.Ytpbinkmeldkehaa
open Ieee

section
variable (f : Format)
/-- The rung nearest to N / 2 ^ s units. -/
def rn (N s : Nat) : Nat := f.nearest false N (f.leastPlace - (s : Int))
theorem rn_ge (hF : 1 ≤ f.fractionBits) (N s r : Nat) (hr : r < f.infRung) : r + 1 ≤ rn f N s ↔ (fval f r + fval f (r + 1)) * 2 ^ s < 2 * N ∨ ((fval f r + fval f (r + 1)) * 2 ^ s = 2 * N ∧ r % 2 = 1) := by
  unfold rn
  rw [near_ge f hF N _ r hr, show (f.leastPlace - (f.leastPlace - (s : Int))).toNat = s by omega, show (f.leastPlace - (s : Int) - f.leastPlace).toNat = 0 by omega, Nat.pow_zero, Nat.mul_one]
theorem near_le (mag : Nat) (place : Int) : f.nearest false mag place ≤ f.infRung := by
  unfold Format.nearest
  split
  · exact Nat.zero_le _
  · simp only [Format.word, Bool.false_eq_true, if_false]
    exact Nat.min_le_right _ _
theorem rn_le_inf (N s : Nat) : rn f N s ≤ f.infRung := near_le f _ _
theorem rn_mono (hF : 1 ≤ f.fractionBits) {N s N' s' : Nat} (h : N * 2 ^ s' ≤ N' * 2 ^ s) : rn f N s ≤ rn f N' s' := by
  rcases Nat.eq_zero_or_pos (rn f N s) with h0 | h0
  · omega
  obtain ⟨r, hr⟩ : ∃ r, rn f N s = r + 1 := ⟨rn f N s - 1, by omega⟩
  have hlt : r < f.infRung := by have := rn_le_inf f N s; omega
  rw [hr, rn_ge f hF N' s' r hlt]
  have h1 := (rn_ge f hF N s r hlt).1 (by omega)
  obtain ⟨c, hc⟩ : ∃ c, c = fval f r + fval f (r + 1) := ⟨_, rfl⟩
  rw [← hc] at h1 ⊢
  have e1 : c * 2 ^ s' * 2 ^ s = c * 2 ^ s * 2 ^ s' := by rw [Nat.mul_assoc, Nat.mul_assoc, Nat.mul_comm (2 ^ s')]
  have e2 : 2 * N' * 2 ^ s = 2 * (N' * 2 ^ s) := Nat.mul_assoc _ _ _
  have e3 : 2 * N * 2 ^ s' = 2 * (N * 2 ^ s') := Nat.mul_assoc _ _ _
  rw [← pow_cancel (a := c * 2 ^ s') (c := s), ← pow_cancel_eq (a := c * 2 ^ s') (c := s), e1, e2]
  rcases h1 with h1 | ⟨h1, h2⟩
  · left
    have := (pow_cancel (c := s')).2 h1
    omega
  · have := (pow_cancel_eq (c := s')).2 h1
    rcases Nat.lt_or_eq_of_le h with h3 | h3
    · left; omega
    · right; exact ⟨by omega, h2⟩
theorem rn_eq (hF : 1 ≤ f.fractionBits) {N s N' s' : Nat} (h : N * 2 ^ s' = N' * 2 ^ s) : rn f N s = rn f N' s' :=
  Nat.le_antisymm (rn_mono f hF (Nat.le_of_eq h)) (rn_mono f hF (Nat.le_of_eq h.symm))
theorem near_rn (hF : 1 ≤ f.fractionBits) (mag : Nat) (place : Int) : f.nearest false mag place = rn f (mag * 2 ^ (place - f.leastPlace).toNat) (f.leastPlace - place).toNat := by
  have h : ∀ r, r < f.infRung → (r + 1 ≤ f.nearest false mag place ↔ r + 1 ≤ rn f (mag * 2 ^ (place - f.leastPlace).toNat) (f.leastPlace - place).toNat) := fun r hr => by
    rw [near_ge f hF mag place r hr, rn_ge f hF _ _ r hr]
  have h1 := near_le f mag place
  have h2 := rn_le_inf f (mag * 2 ^ (place - f.leastPlace).toNat) (f.leastPlace - place).toNat
  obtain ⟨a, ha⟩ : ∃ a, a = f.nearest false mag place := ⟨_, rfl⟩
  obtain ⟨b, hb⟩ : ∃ b, b = rn f (mag * 2 ^ (place - f.leastPlace).toNat) (f.leastPlace - place).toNat := ⟨_, rfl⟩
  rw [← ha, ← hb] at h ⊢
  rw [← ha] at h1
  rw [← hb] at h2
  rcases Nat.lt_trichotomy a b with hc | hc | hc
  · have := (h a (by omega)).2 hc; omega
  · exact hc
  · have := (h b (by omega)).1 hc; omega
theorem rn_val (hF : 1 ≤ f.fractionBits) (r : Nat) (hr : r ≤ f.infRung) : rn f (fval f r) 0 = r := by
  apply Nat.le_antisymm
  · rcases Nat.lt_or_eq_of_le hr with h | h
    · rcases Nat.lt_or_ge r (rn f (fval f r) 0) with h1 | h1
      · exfalso
        have := (rn_ge f hF (fval f r) 0 r h).1 h1
        have h2 := fval_succ f r
        rw [Nat.pow_zero, Nat.mul_one] at this
        rcases this with h3 | ⟨h3, _⟩ <;> omega
      · exact h1
    · rw [h]; exact rn_le_inf f _ _
  · rcases Nat.eq_zero_or_pos r with h | h
    · omega
    · obtain ⟨q, rfl⟩ : ∃ q, r = q + 1 := ⟨r - 1, by omega⟩
      refine (rn_ge f hF _ 0 q (by omega)).2 (.inl ?_)
      have h2 := fval_succ f q
      rw [Nat.pow_zero, Nat.mul_one]
      omega
theorem rn_le (hF : 1 ≤ f.fractionBits) {N s r : Nat} (hr : r ≤ f.infRung) (h : N ≤ fval f r * 2 ^ s) : rn f N s ≤ r := by
  have := rn_mono f hF (N := N) (s := s) (N' := fval f r) (s' := 0) (by simpa using h)
  rwa [rn_val f hF r hr] at this
/-- What a rung below infinity stands for. -/
theorem read_rung (r : Nat) (hr : r < f.infRung) : ∃ m i, f.read r = .number false m i ∧ f.leastPlace ≤ i ∧ m * 2 ^ (i - f.leastPlace).toNat = fval f r ∧ (m = 0 ↔ r = 0) := by
  have hsw := f.infRung_lt
  have h1 : r / f.signWeight = 0 := Nat.div_eq_of_lt (by omega)
  have h2 : r % f.signWeight = r := Nat.mod_eq_of_lt (by omega)
  have hp := binade_pos f
  unfold Format.read fval
  rw [h1, h2]
  by_cases h : r < f.binade
  · simp only [h, if_true]
    refine ⟨r, f.leastPlace, rfl, Int.le_refl _, by simp, Iff.rfl⟩
  · simp only [h, if_false, hr, if_true]
    refine ⟨f.binade + r % f.binade, _, rfl, by omega, ?_, by omega⟩
    rw [show (f.leastPlace + ((r / f.binade - 1 : Nat) : Int) - f.leastPlace).toNat = r / f.binade - 1 by omega]
theorem signed_false (m up : Nat) : signed false m up = ((m * 2 ^ up : Nat) : Int) := by unfold signed; simp [Nat.shiftLeft_eq]
theorem scale_base (LP i base : Int) (m : Nat) (h1 : LP ≤ base) (h2 : base ≤ i) : m * 2 ^ (i - base).toNat * 2 ^ (base - LP).toNat = m * 2 ^ (i - LP).toNat := by
  rw [Nat.mul_assoc, ← Nat.pow_add, show (i - base).toNat + (base - LP).toNat = (i - LP).toNat by omega]
/-- A sum of two rungs. -/
theorem add_rung (hF : 1 ≤ f.fractionBits) (x y : Nat) (hx : x < f.infRung) (hy : y < f.infRung) : f.add x y = some (rn f (fval f x + fval f y) 0) := by
  obtain ⟨m, i, e1, h1, h2, _⟩ := read_rung f x hx
  obtain ⟨n, j, e2, h3, h4, _⟩ := read_rung f y hy
  unfold Format.add
  rw [e1, e2]
  show (Datum.sum (.number false m i) (.number false n j)).map f.write = _
  unfold Datum.sum
  simp only [signed_false, Option.map_some]
  obtain ⟨base, hb⟩ : ∃ base, base = min i j := ⟨_, rfl⟩
  have hb1 : f.leastPlace ≤ base := by omega
  have hb2 : base ≤ i := by omega
  have hb3 : base ≤ j := by omega
  rw [← hb]
  clear hb
  have ht : (((m * 2 ^ (i - base).toNat : Nat) : Int) + ((n * 2 ^ (j - base).toNat : Nat) : Int)) = ((m * 2 ^ (i - base).toNat + n * 2 ^ (j - base).toNat : Nat) : Int) := by omega
  rw [ht]
  obtain ⟨T, hT⟩ : ∃ T, T = m * 2 ^ (i - base).toNat + n * 2 ^ (j - base).toNat := ⟨_, rfl⟩
  rw [← hT]
  have hs : (if ((T : Nat) : Int) = 0 then (false && false) else decide (((T : Nat) : Int) < 0)) = false := by
    split
    · rfl
    · simp
  rw [hs]
  unfold Format.write
  congr 1
  show f.nearest false ((T : Int).natAbs) base = _
  rw [Int.natAbs_natCast, near_rn f hF]
  apply rn_eq f hF
  rw [show (f.leastPlace - base).toNat = 0 by omega, hT, Nat.pow_zero, Nat.mul_one, Nat.mul_one, Nat.add_mul, scale_base _ _ _ _ hb1 hb2, scale_base _ _ _ _ hb1 hb3, h2, h4]
/-- A product of two rungs. -/
theorem mul_rung (hF : 1 ≤ f.fractionBits) (hLP : f.leastPlace ≤ 0) (x y : Nat) (hx : x < f.infRung) (hy : y < f.infRung) : f.mul x y = some (rn f (fval f x * fval f y) (-f.leastPlace).toNat) := by
  obtain ⟨m, i, e1, h1, h2, _⟩ := read_rung f x hx
  obtain ⟨n, j, e2, h3, h4, _⟩ := read_rung f y hy
  unfold Format.mul
  rw [e1, e2]
  show (Datum.product (.number false m i) (.number false n j)).map f.write = _
  unfold Datum.product
  simp only [Option.map_some, Bool.xor_false]
  unfold Format.write
  congr 1
  show f.nearest false (m * n) (i + j) = _
  rw [near_rn f hF]
  apply rn_eq f hF
  rw [← h2, ← h4]
  have e : ∀ a b c d : Nat, m * n * 2 ^ a * 2 ^ b = m * 2 ^ c * (n * 2 ^ d) * 2 ^ (a + b - c - d) ∨ c + d > a + b := fun a b c d => by
    by_cases h : c + d ≤ a + b
    · left
      rw [Nat.mul_assoc, ← Nat.pow_add, Nat.mul_assoc m, Nat.mul_assoc m, Nat.mul_assoc m]
      congr 1
      rw [Nat.mul_comm (2 ^ c), Nat.mul_assoc n, ← Nat.pow_add, Nat.mul_assoc n, ← Nat.pow_add]
      congr 2
      omega
    · right; omega
  rcases e (i + j - f.leastPlace).toNat (-f.leastPlace).toNat (i - f.leastPlace).toNat (j - f.leastPlace).toNat with h | h
  · rw [h]
    congr 2
    omega
  · omega
end
end Go.Proofs.Ytpbinkmeldkehaa
namespace Go.Proofs.Ytpbinkmeldkehaa
open Ieee

theorem cmp_congr {a b c d : Int} (h1 : a < b ↔ c < d) (h2 : a = b ↔ c = d) : compare a b = compare c d := by
  show compareOfLessAndEq a b = compareOfLessAndEq c d
  unfold compareOfLessAndEq
  simp only [h1, h2]
theorem cmp_lt {a b : Int} (h : a < b) : compare a b = .lt := by
  show compareOfLessAndEq a b = .lt
  unfold compareOfLessAndEq
  rw [if_pos h]
theorem cmp_gt {a b : Int} (h : b < a) : compare a b = .gt := by
  show compareOfLessAndEq a b = .gt
  unfold compareOfLessAndEq
  rw [if_neg (by omega), if_neg (by omega)]
theorem cmp_eq {a b : Int} (h : a = b) : compare a b = .eq := by
  show compareOfLessAndEq a b = .eq
  unfold compareOfLessAndEq
  rw [if_neg (by omega), if_pos h]
/-- A number with its sign. -/
def sg (neg : Bool) (n : Nat) : Int := if neg then -(n : Int) else n
theorem signed_sg (neg : Bool) (m up : Nat) : signed neg m up = sg neg (m * 2 ^ up) := by unfold signed sg; rw [Nat.shiftLeft_eq]
theorem sg_mul (neg : Bool) (n c : Nat) : sg neg n * (c : Int) = sg neg (n * c) := by
  unfold sg
  cases neg <;> simp [Int.neg_mul]

section
variable (f : Format)
/-- Where a word stands in the order. -/
def plc (x : Nat) : Int := if f.signWeight ≤ x then -((x - f.signWeight : Nat) : Int) else (x : Int)
/-- No number. -/
def isN (x : Nat) : Bool := decide (f.infRung < x % f.signWeight)
theorem word_split (x : Nat) (hx : x < 2 * f.signWeight) : ∃ (neg : Bool) (r : Nat), r < f.signWeight ∧ x % f.signWeight = r ∧ (x / f.signWeight % 2 == 1) = neg ∧ plc f x = sg neg r := by
  unfold plc
  by_cases h : f.signWeight ≤ x
  · obtain ⟨r, rfl⟩ : ∃ r, x = f.signWeight + r := ⟨x - f.signWeight, by omega⟩
    have hr : r < f.signWeight := by omega
    refine ⟨true, r, hr, by rw [Nat.add_mod_left, Nat.mod_eq_of_lt hr], ?_, ?_⟩
    · rw [Nat.add_div_left _ (by omega), Nat.div_eq_of_lt hr]; rfl
    · rw [if_pos h, Nat.add_sub_cancel_left]; rfl
  · refine ⟨false, x, by omega, Nat.mod_eq_of_lt (by omega), ?_, ?_⟩
    · rw [Nat.div_eq_of_lt (by omega)]; rfl
    · rw [if_neg h]; rfl
/-- What a word stands for. -/
theorem read_word (hE : f.binade ≤ f.infRung) (x r : Nat) (neg : Bool) (h1 : x % f.signWeight = r) (h2 : (x / f.signWeight % 2 == 1) = neg) :
    (r < f.infRung ∧ ∃ m i, f.read x = .number neg m i ∧ f.leastPlace ≤ i ∧ m * 2 ^ (i - f.leastPlace).toNat = fval f r) ∨ (r = f.infRung ∧ f.read x = .infinity neg) ∨ (f.infRung < r ∧ ∃ t, f.read x = .nan neg t) := by
  unfold Format.read
  simp only [h1, h2]
  by_cases hB : r < f.binade
  · left
    refine ⟨by omega, r, f.leastPlace, by rw [if_pos hB], Int.le_refl _, ?_⟩
    unfold fval
    rw [if_pos hB]
    simp
  · rw [if_neg hB]
    rcases Nat.lt_trichotomy r f.infRung with hI | hI | hI
    · left
      refine ⟨hI, f.binade + r % f.binade, f.leastPlace + ((r / f.binade - 1 : Nat) : Int), by rw [if_pos hI], by omega, ?_⟩
      unfold fval
      rw [if_neg hB, show (f.leastPlace + ((r / f.binade - 1 : Nat) : Int) - f.leastPlace).toNat = r / f.binade - 1 by omega]
    · right; left
      exact ⟨hI, by rw [if_neg (by omega), if_pos hI]⟩
    · right; right
      exact ⟨hI, r - f.infRung, by rw [if_neg (by omega), if_neg (by omega)]⟩
theorem fval_pos {r : Nat} (h : 0 < r) : 0 < fval f r := by have := fval_lt f h; rw [fval_zero] at this; exact this
theorem sg_lt (s t : Bool) (x y : Nat) : sg s (fval f x) < sg t (fval f y) ↔ sg s x < sg t y := by
  have hx : fval f x = 0 ↔ x = 0 := ⟨fun h => by rcases Nat.eq_zero_or_pos x with h' | h'; exact h'; have := fval_pos f h'; omega, fun h => by rw [h]; exact fval_zero f⟩
  have hy : fval f y = 0 ↔ y = 0 := ⟨fun h => by rcases Nat.eq_zero_or_pos y with h' | h'; exact h'; have := fval_pos f h'; omega, fun h => by rw [h]; exact fval_zero f⟩
  have hxy : fval f x < fval f y ↔ x < y := ⟨fun h => by rcases Nat.lt_or_ge x y with h' | h'; exact h'; have := fval_le f h'; omega, fval_lt f⟩
  have hyx : fval f y < fval f x ↔ y < x := ⟨fun h => by rcases Nat.lt_or_ge y x with h' | h'; exact h'; have := fval_le f h'; omega, fval_lt f⟩
  unfold sg
  cases s <;> cases t <;> simp only [Bool.false_eq_true, if_false, if_true] <;> omega
theorem sg_eq (s t : Bool) (x y : Nat) : sg s (fval f x) = sg t (fval f y) ↔ sg s x = sg t y := by
  have h1 := sg_lt f s t x y
  have h2 := sg_lt f t s y x
  omega
/-- Two words that are numbers stand to each other as their places do. -/
theorem order_word (hE : f.binade ≤ f.infRung) (x y : Nat) (hx : x < 2 * f.signWeight) (hy : y < 2 * f.signWeight) (nx : isN f x = false) (ny : isN f y = false) : f.order x y = some (compare (plc f x) (plc f y)) := by
  obtain ⟨s, r, hr, e1, e2, e3⟩ := word_split f x hx
  obtain ⟨t, q, hq, g1, g2, g3⟩ := word_split f y hy
  unfold isN at nx ny
  rw [e1] at nx
  rw [g1] at ny
  have hr2 : r ≤ f.infRung := by simpa using nx
  have hq2 : q ≤ f.infRung := by simpa using ny
  unfold Format.order
  rw [e3, g3]
  rcases read_word f hE x r s e1 e2 with ⟨h1, m, i, h2, h3, h4⟩ | ⟨h1, h2⟩ | ⟨h1, _⟩
  · rcases read_word f hE y q t g1 g2 with ⟨k1, n, j, k2, k3, k4⟩ | ⟨k1, k2⟩ | ⟨k1, _⟩
    · rw [h2, k2]
      unfold Datum.order
      simp only [signed_sg]
      congr 1
      obtain ⟨base, hb⟩ : ∃ base, base = min i j := ⟨_, rfl⟩
      have hb1 : f.leastPlace ≤ base := by omega
      have hb2 : base ≤ i := by omega
      have hb3 : base ≤ j := by omega
      rw [← hb]
      clear hb
      obtain ⟨c, hc⟩ : ∃ c : Nat, c = 2 ^ (base - f.leastPlace).toNat := ⟨_, rfl⟩
      have hc0 : (0 : Int) < (c : Int) := by rw [hc]; exact Int.natCast_pos.2 (Nat.pow_pos (by decide))
      have v1 : sg s (m * 2 ^ (i - base).toNat) * (c : Int) = sg s (fval f r) := by rw [sg_mul, hc, scale_base _ _ _ _ hb1 hb2, h4]
      have v2 : sg t (n * 2 ^ (j - base).toNat) * (c : Int) = sg t (fval f q) := by rw [sg_mul, hc, scale_base _ _ _ _ hb1 hb3, k4]
      apply cmp_congr
      · rw [← sg_lt f s t r q, ← v1, ← v2]
        exact ⟨fun h => Int.mul_lt_mul_of_pos_right h hc0, fun h => Int.lt_of_mul_lt_mul_right h (Int.le_of_lt hc0)⟩
      · rw [← sg_eq f s t r q, ← v1, ← v2]
        exact ⟨fun h => by rw [h], fun h => Int.eq_of_mul_eq_mul_right (Int.ne_of_gt hc0) h⟩
    · rw [h2, k2]
      unfold Datum.order
      simp only
      congr 1
      unfold sg
      cases t
      · rw [if_neg (by simp), cmp_lt]; cases s <;> simp <;> omega
      · rw [if_pos rfl, cmp_gt]; cases s <;> simp <;> omega
    · omega
  · rcases read_word f hE y q t g1 g2 with ⟨k1, n, j, k2, k3, k4⟩ | ⟨k1, k2⟩ | ⟨k1, _⟩
    · rw [h2, k2]
      unfold Datum.order
      simp only
      congr 1
      unfold sg
      cases s
      · rw [if_neg (by simp), cmp_gt]; cases t <;> simp <;> omega
      · rw [if_pos rfl, cmp_lt]; cases t <;> simp <;> omega
    · rw [h2, k2]
      unfold Datum.order
      simp only
      congr 1
      have hI : 0 < f.infRung := by have := binade_pos f; omega
      subst h1
      subst k1
      unfold sg
      cases s <;> cases t
      · rw [cmp_eq rfl]; rfl
      · rw [if_neg (by simp), if_pos rfl, cmp_gt (by omega)]; rfl
      · rw [if_pos rfl, if_neg (by simp), cmp_lt (by omega)]; rfl
      · rw [cmp_eq rfl]; rfl
    · omega
  · omega
/-- What is no number stands to nothing. -/
theorem order_nan (hE : f.binade ≤ f.infRung) (x y : Nat) (h : isN f x = true ∨ isN f y = true) : f.order x y = none := by
  unfold isN at h
  simp only [decide_eq_true_eq] at h
  unfold Format.order
  rcases h with h | h
  · rcases read_word f hE x _ _ rfl rfl with ⟨h1, _⟩ | ⟨h1, _⟩ | ⟨_, t, h2⟩
    · omega
    · omega
    · rw [h2]; unfold Datum.order; cases f.read y <;> rfl
  · rcases read_word f hE y _ _ rfl rfl with ⟨h1, _⟩ | ⟨h1, _⟩ | ⟨_, t, h2⟩
    · omega
    · omega
    · rw [h2]; unfold Datum.order; cases f.read x <;> rfl
end
end Go.Proofs.Ytpbinkmeldkehaa
namespace Go.Proofs.Ytpbinkmeldkehaa
open Ieee

theorem dF : 1 ≤ double.fractionBits := by decide
theorem d_bin : double.binade = 4503599627370496 := by decide
theorem d_inf : double.infRung = 9218868437227405312 := by decide
theorem d_sw : double.signWeight = 9223372036854775808 := by decide
/-- How far below one the least place lies, less one. -/
def lph : Nat := 1073
theorem d_lp : double.leastPlace = -((lph : Int) + 1) := by unfold lph; decide
theorem d_lpn : (-double.leastPlace).toNat = lph + 1 := by rw [d_lp]; omega
theorem d_lp0 : double.leastPlace ≤ 0 := by rw [d_lp]; omega
theorem dE : double.binade ≤ double.infRung := by rw [d_bin, d_inf]; decide
/-- One, a half, two, the greatest finite number. -/
def ONE : Nat := 4607182418800017408
def TWO : Nat := 4611686018427387904
def MAXR : Nat := 9218868437227405311
theorem val_pow (e : Nat) : fval double (e * double.binade + double.binade) = 2 ^ (52 + e) := by
  rw [fval_form double e double.binade (.inr ⟨Nat.le_refl _, by omega⟩), Nat.pow_add]; rfl
theorem val_one : fval double ONE = 2 ^ (lph + 1) := by
  have := val_pow (lph - 51)
  rw [show (lph - 51) * double.binade + double.binade = ONE by rw [d_bin]; rfl, show 52 + (lph - 51) = lph + 1 from rfl] at this
  exact this
end Go.Proofs.Ytpbinkmeldkehaa
namespace Go.Proofs.Ytpbinkmeldkehaa
open Ieee

/-- What counts of a word. -/
def cleanT (b : Nat) : Nat := if double.signWeight ≤ b ∨ double.infRung < b then 0 else min b MAXR
theorem max_inf : MAXR + 1 = double.infRung := by rw [d_inf]; rfl
theorem cleanT_lt (b : Nat) : cleanT b < double.infRung := by
  have := max_inf
  unfold cleanT
  split <;> omega
theorem cleanT_fix (b : Nat) (h : b < double.infRung) : cleanT b = b := by
  have := max_inf
  have h2 := double.infRung_lt
  unfold cleanT
  rw [if_neg (by omega), Nat.min_eq_left (by omega)]
theorem cleanT_rung (b : Nat) (h : b ≤ double.infRung) : cleanT b = min b MAXR := by
  have h2 := double.infRung_lt
  unfold cleanT
  rw [if_neg (by omega)]
/-- A sum, a product. -/
def addR (x y : Nat) : Nat := rn double (fval double x + fval double y) 0
def mulR (x y : Nat) : Nat := rn double (fval double x * fval double y) (lph + 1)
theorem add_eq (x y : Nat) (hx : x < double.infRung) (hy : y < double.infRung) : double.add x y = some (addR x y) := add_rung double dF x y hx hy
theorem mul_eq (x y : Nat) (hx : x < double.infRung) (hy : y < double.infRung) : double.mul x y = some (mulR x y) := by
  rw [mul_rung double dF d_lp0 x y hx hy, d_lpn]; rfl
theorem addR_le (x y : Nat) : addR x y ≤ double.infRung := rn_le_inf _ _ _
theorem mulR_le (x y : Nat) : mulR x y ≤ double.infRung := rn_le_inf _ _ _
theorem addR_mono {x y x' y' : Nat} (h1 : x ≤ x') (h2 : y ≤ y') : addR x y ≤ addR x' y' := by
  have a := fval_le double h1
  have b := fval_le double h2
  exact rn_mono double dF (by rw [Nat.pow_zero]; omega)
/-- A whole number as a float. -/
def intF (n : Nat) : Nat := rn double (n * 2 ^ (lph + 1)) 0
theorem write_int (n : Nat) : double.write (.number false n 0) = intF n := by
  show double.nearest false n 0 = _
  rw [near_rn double dF, d_lp]
  unfold intF
  rw [show ((0 : Int) - -((lph : Int) + 1)).toNat = lph + 1 by omega, show (-((lph : Int) + 1) - 0).toNat = 0 by omega]
theorem val_pow63 : fval double (4890909195324358656) = 2 ^ (lph + 1 + 63) := by
  have := val_pow (lph + 12)
  rw [show (lph + 12) * double.binade + double.binade = 4890909195324358656 by rw [d_bin]; rfl, show 52 + (lph + 12) = lph + 1 + 63 from rfl] at this
  exact this
theorem intF_lt (n : Nat) (h : n ≤ 9223372036854775808) : intF n < double.infRung := by
  have : intF n ≤ 4890909195324358656 := by
    apply rn_le double dF (by rw [d_inf]; decide)
    rw [val_pow63, Nat.pow_zero, Nat.mul_one, Nat.pow_add 2 (lph + 1) 63, Nat.mul_comm]
    exact Nat.mul_le_mul_left _ (Nat.le_trans h (by decide))
  rw [d_inf]
  omega
/-- One and what counts of a weight is finite. -/
theorem addR_one_lt (c : Nat) (hc : c < double.infRung) : addR ONE c < double.infRung := by
  have hm := max_inf
  have h1 : addR ONE c ≤ addR ONE MAXR := addR_mono (Nat.le_refl _) (by omega)
  rcases Nat.lt_or_ge (addR ONE MAXR) double.infRung with h | h
  · omega
  · exfalso
    rw [← hm] at h
    have h2 := (rn_ge double dF _ _ MAXR (by omega)).1 h
    rw [val_one, Nat.pow_zero, Nat.mul_one] at h2
    have e1 : fval double MAXR = (2 * double.binade - 1) * 2 ^ (lph + 972) := by
      have := fval_form double (lph + 972) (2 * double.binade - 1) (.inr (by rw [d_bin]; decide))
      rw [show (lph + 972) * double.binade + (2 * double.binade - 1) = MAXR by rw [d_bin]; rfl] at this
      exact this
    have e2 : fval double (MAXR + 1) = (2 * double.binade) * 2 ^ (lph + 972) := by
      have := fval_form double (lph + 972) (2 * double.binade) (.inr (by rw [d_bin]; decide))
      rw [show (lph + 972) * double.binade + 2 * double.binade = MAXR + 1 by rw [d_bin]; rfl] at this
      exact this
    have e3 : (2 * double.binade) * 2 ^ (lph + 972) = (2 * double.binade - 1) * 2 ^ (lph + 972) + 2 ^ (lph + 972) := by
      rw [← Nat.succ_mul, Nat.succ_eq_add_one, show 2 * double.binade - 1 + 1 = 2 * double.binade by rw [d_bin]]
    have e4 : 2 ^ (lph + 1) * 2 < 2 ^ (lph + 972) := by
      rw [← Nat.pow_succ]
      exact Nat.pow_lt_pow_right (by decide) (by omega)
    rw [e2, e3, e1] at h2
    rcases h2 with h2 | ⟨h2, _⟩ <;> omega

/-- What a load costs. -/
def costT (load : Int) (w : Nat) : Nat := if load < 0 then 0 else mulR (intF load.toNat) (addR ONE (cleanT w))
theorem costT_le (load : Int) (w : Nat) : costT load w ≤ double.infRung := by unfold costT; split; exact Nat.zero_le _; exact mulR_le _ _
end Go.Proofs.Ytpbinkmeldkehaa
namespace Go.Proofs.Ytpbinkmeldkehaa
open Ieee

end Go.Proofs.Ytpbinkmeldkehaa
