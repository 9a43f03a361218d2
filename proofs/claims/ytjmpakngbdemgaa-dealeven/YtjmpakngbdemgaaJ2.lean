import Derived.Test.YtjmpakngbdemgaaJ1
import Derived.Laws.Externs
import Derived.Lib.Hide
namespace Go.Proofs.Ytjmpakngbdemgaa
open Ieee

theorem dF : 1 ≤ double.fractionBits := by decide
theorem d_bin : double.binade = 4503599627370496 := by decide
theorem d_inf : double.infRung = 9218868437227405312 := by decide
theorem d_sw : double.signWeight = 9223372036854775808 := by decide
/-- How far below one the least place lies, less one. -/
def lph : Nat := 1073
theorem d_lp : double.leastPlace = -((lph : Int) + 1) := by unfold lph; decide
theorem d_lpn : (-double.leastPlace).toNat = lph + 1 := by rw [d_lp]; omega
theorem d_lp0 : double.leastPlace ≤ 0 := by rw [d_lp]; omega
theorem dE : double.binade ≤ double.infRung := by rw [d_bin, d_inf]; decide
/-- One, a half, two, the greatest finite number. -/
def ONE : Nat := 4607182418800017408
def HALF : Nat := 4602678819172646912
def TWO : Nat := 4611686018427387904
def MAXR : Nat := 9218868437227405311
theorem val_pow (e : Nat) : fval double (e * double.binade + double.binade) = 2 ^ (52 + e) := by
  rw [fval_form double e double.binade (.inr ⟨Nat.le_refl _, by omega⟩), Nat.pow_add]; rfl
theorem val_one : fval double ONE = 2 ^ (lph + 1) := by
  have := val_pow (lph - 51)
  rw [show (lph - 51) * double.binade + double.binade = ONE by rw [d_bin]; rfl, show 52 + (lph - 51) = lph + 1 from rfl] at this
  exact this
theorem val_half : fval double HALF = 2 ^ lph := by
  have := val_pow (lph - 52)
  rw [show (lph - 52) * double.binade + double.binade = HALF by rw [d_bin]; rfl, show 52 + (lph - 52) = lph from rfl] at this
  exact this
theorem val_two : fval double TWO = 2 ^ (lph + 2) := by
  have := val_pow (lph - 50)
  rw [show (lph - 50) * double.binade + double.binade = TWO by rw [d_bin]; rfl, show 52 + (lph - 50) = lph + 2 from rfl] at this
  exact this
/-- Half of a rung. -/
def halfR (x : Nat) : Nat := rn double (fval double x) 1
theorem mul_half (x : Nat) (hx : x < double.infRung) : double.mul x HALF = some (halfR x) := by
  rw [mul_rung double dF d_lp0 x HALF hx (by rw [d_inf]; decide), val_half, d_lpn]
  unfold halfR
  have e : fval double x * 2 ^ lph * 2 ^ 1 = fval double x * 2 ^ (lph + 1) := by rw [Nat.mul_assoc, ← Nat.pow_add]
  rw [rn_eq double dF e]
theorem mul_comm_rung (x y : Nat) (hx : x < double.infRung) (hy : y < double.infRung) : double.mul x y = double.mul y x := by
  rw [mul_rung double dF d_lp0 x y hx hy, mul_rung double dF d_lp0 y x hy hx, Nat.mul_comm]
/-- A quotient of rungs: what is written. -/
theorem div_rung (x y : Nat) (hx : x < double.infRung) (hy : y < double.infRung) (hy0 : 0 < y) : ∃ m i n j, m * 2 ^ (i - double.leastPlace).toNat = fval double x ∧ n * 2 ^ (j - double.leastPlace).toNat = fval double y ∧ double.leastPlace ≤ i ∧ double.leastPlace ≤ j ∧ n ≠ 0 ∧ (m = 0 ↔ x = 0) ∧
    double.div x y = some (double.nearest false (2 * ((m * 2 ^ (54 + n.log2 - m.log2)) / n) + ((m * 2 ^ (54 + n.log2 - m.log2)) % n != 0).toNat) (i - j - ((54 + n.log2 - m.log2 : Nat) : Int) - 1)) := by
  obtain ⟨m, i, e1, h1, h2, h5⟩ := read_rung double x hx
  obtain ⟨n, j, e2, h3, h4, h6⟩ := read_rung double y hy
  have hn : n ≠ 0 := fun h => by have := h6.1 h; omega
  refine ⟨m, i, n, j, h2, h4, h1, h3, hn, h5, ?_⟩
  unfold Format.div
  rw [e1, e2]
  show (Datum.quotient (double.fractionBits + 2) (.number false m i) (.number false n j)).map double.write = _
  unfold Datum.quotient
  simp only [hn, if_false, Option.map_some, Bool.xor_false, Nat.shiftLeft_eq]
  rfl
theorem le_of_scaled {a b c : Nat} (h : a * 2 ^ c ≤ b * 2 ^ c) : a ≤ b := pow_cancel_le.1 h
/-- A part of something is not above one. -/
theorem div_le_one (x y : Nat) (hxy : x ≤ y) (hy : y < double.infRung) (hy0 : 0 < y) : ∃ R, double.div x y = some R ∧ R ≤ ONE := by
  obtain ⟨m, i, n, j, h1, h2, h3, h4, hn, hm0, hd⟩ := div_rung x y (by omega) hy hy0
  refine ⟨_, hd, ?_⟩
  obtain ⟨more, hmore⟩ : ∃ more, more = 54 + n.log2 - m.log2 := ⟨_, rfl⟩
  rw [← hmore]
  have hle : m * 2 ^ (i - double.leastPlace).toNat ≤ n * 2 ^ (j - double.leastPlace).toNat := by rw [h1, h2]; exact fval_le double hxy
  rw [near_rn double dF]
  apply rn_le double dF (by rw [d_inf]; decide)
  rw [val_one]
  obtain ⟨q, hq⟩ : ∃ q, q = 2 * (m * 2 ^ more / n) + (m * 2 ^ more % n != 0).toNat := ⟨_, rfl⟩
  rw [← hq]
  obtain ⟨a, ha⟩ : ∃ a, a = (i - double.leastPlace).toNat := ⟨_, rfl⟩
  obtain ⟨b, hb⟩ : ∃ b, b = (j - double.leastPlace).toNat := ⟨_, rfl⟩
  rw [← ha, ← hb] at hle
  rw [d_lp] at h3 h4 ha hb ⊢
  rcases Nat.eq_zero_or_pos m with hm | hm
  · subst hm
    rw [Nat.zero_mul, Nat.zero_div, Nat.zero_mod] at hq
    rw [hq]
    simp
  -- the dividend is not above the divisor, scaled
  have hbm : a ≤ b + more := by
    rcases Nat.lt_or_ge (b + more) a with h | h
    · exfalso
      have k1 : m * 2 ^ (more + 1) ≤ n := by
        apply le_of_scaled (c := b)
        refine Nat.le_trans ?_ hle
        rw [Nat.mul_assoc, ← Nat.pow_add]
        exact Nat.mul_le_mul_left _ (Nat.pow_le_pow_right (by decide) (by omega))
      have k2 : n < 2 ^ (n.log2 + 1) := Nat.lt_log2_self
      have k3 : 2 ^ m.log2 ≤ m := Nat.log2_self_le (by omega)
      have k4 : 2 ^ (n.log2 + 1) ≤ 2 ^ m.log2 * 2 ^ (more + 1) := by
        rw [← Nat.pow_add]
        exact Nat.pow_le_pow_right (by decide) (by omega)
      have k5 : 2 ^ m.log2 * 2 ^ (more + 1) ≤ m * 2 ^ (more + 1) := Nat.mul_le_mul_right _ k3
      omega
    · exact h
  obtain ⟨t, ht⟩ : ∃ t, b + more = a + t := ⟨b + more - a, by omega⟩
  have hdv : m * 2 ^ more ≤ n * 2 ^ t := by
    apply le_of_scaled (c := a)
    rw [Nat.mul_assoc, Nat.mul_assoc, ← Nat.pow_add, ← Nat.pow_add, show t + a = b + more by omega, Nat.add_comm more a, Nat.pow_add, ← Nat.mul_assoc, Nat.pow_add, ← Nat.mul_assoc]
    exact Nat.mul_le_mul_right _ hle
  have hq2 : q ≤ 2 * 2 ^ t := by
    rw [hq]
    have hn0 : 0 < n := by omega
    have d1 : m * 2 ^ more / n ≤ 2 ^ t := by
      have := Nat.div_le_div_right (c := n) hdv
      rwa [Nat.mul_comm n, Nat.mul_div_cancel _ hn0] at this
    by_cases hz : m * 2 ^ more % n = 0
    · rw [hz]; simp; omega
    · have d2 : m * 2 ^ more / n < 2 ^ t := by
        rcases Nat.lt_or_eq_of_le d1 with h | h
        · exact h
        · exfalso
          have h7 := Nat.div_add_mod (m * 2 ^ more) n
          rw [h] at h7
          omega
      have : (m * 2 ^ more % n != 0).toNat ≤ 1 := Bool.toNat_le _
      omega
  -- in units of the least place
  rw [show (-((lph : Int) + 1) - (i - j - (more : Int) - 1)) = (t : Int) - lph by omega, show (i - j - (more : Int) - 1 - -((lph : Int) + 1)) = (lph : Int) - t by omega]
  by_cases h8 : t ≤ lph
  · rw [show ((lph : Int) - (t : Int)).toNat = lph - t by omega, show ((t : Int) - lph).toNat = 0 by omega, Nat.pow_zero, Nat.mul_one]
    refine Nat.le_trans (Nat.mul_le_mul_right _ hq2) ?_
    rw [Nat.mul_assoc, ← Nat.pow_add, show t + (lph - t) = lph by omega, Nat.pow_succ, Nat.mul_comm]
    exact Nat.le_refl _
  · rw [show ((lph : Int) - (t : Int)).toNat = 0 by omega, show ((t : Int) - lph).toNat = t - lph by omega, Nat.pow_zero, Nat.mul_one, ← Nat.pow_add, show lph + 1 + (t - lph) = t + 1 by omega, Nat.pow_succ, Nat.mul_comm]
    exact hq2
end Go.Proofs.Ytjmpakngbdemgaa
namespace Go.Proofs.Ytjmpakngbdemgaa
open Ieee

/-- What counts of a word. -/
def cleanT (b : Nat) : Nat := if double.signWeight ≤ b ∨ double.infRung < b then 0 else min b MAXR
theorem max_inf : MAXR + 1 = double.infRung := by rw [d_inf]; rfl
theorem cleanT_lt (b : Nat) : cleanT b < double.infRung := by
  have := max_inf
  unfold cleanT
  split <;> omega
theorem cleanT_fix (b : Nat) (h : b < double.infRung) : cleanT b = b := by
  have := max_inf
  have h2 := double.infRung_lt
  unfold cleanT
  rw [if_neg (by omega), Nat.min_eq_left (by omega)]
theorem cleanT_rung (b : Nat) (h : b ≤ double.infRung) : cleanT b = min b MAXR := by
  have h2 := double.infRung_lt
  unfold cleanT
  rw [if_neg (by omega)]
theorem cleanT_clean (b : Nat) : cleanT (cleanT b) = cleanT b := cleanT_fix _ (cleanT_lt b)

/-- A sum, a product. -/
def addR (x y : Nat) : Nat := rn double (fval double x + fval double y) 0
def mulR (x y : Nat) : Nat := rn double (fval double x * fval double y) (lph + 1)
theorem add_eq (x y : Nat) (hx : x < double.infRung) (hy : y < double.infRung) : double.add x y = some (addR x y) := add_rung double dF x y hx hy
theorem mul_eq (x y : Nat) (hx : x < double.infRung) (hy : y < double.infRung) : double.mul x y = some (mulR x y) := by
  rw [mul_rung double dF d_lp0 x y hx hy, d_lpn]; rfl
theorem addR_le (x y : Nat) : addR x y ≤ double.infRung := rn_le_inf _ _ _
theorem mulR_le (x y : Nat) : mulR x y ≤ double.infRung := rn_le_inf _ _ _
theorem addR_comm (x y : Nat) : addR x y = addR y x := by unfold addR; rw [Nat.add_comm]
theorem mulR_comm (x y : Nat) : mulR x y = mulR y x := by unfold mulR; rw [Nat.mul_comm]
theorem addR_left (x y : Nat) (hx : x ≤ double.infRung) : x ≤ addR x y := le_rn double dF hx (by rw [Nat.pow_zero]; omega)
theorem addR_right (x y : Nat) (hy : y ≤ double.infRung) : y ≤ addR x y := le_rn double dF hy (by rw [Nat.pow_zero]; omega)
theorem addR_zero (x : Nat) (hx : x ≤ double.infRung) : addR x 0 = x := by unfold addR; rw [fval_zero, Nat.add_zero, rn_val double dF x hx]
theorem addR_mono {x y x' y' : Nat} (h1 : x ≤ x') (h2 : y ≤ y') : addR x y ≤ addR x' y' := by
  have a := fval_le double h1
  have b := fval_le double h2
  exact rn_mono double dF (by rw [Nat.pow_zero]; omega)
theorem mulR_mono {x y x' y' : Nat} (h1 : x ≤ x') (h2 : y ≤ y') : mulR x y ≤ mulR x' y' := by
  have a := fval_le double h1
  have b := fval_le double h2
  exact rn_mono double dF (Nat.mul_le_mul_right _ (Nat.mul_le_mul a b))
theorem mulR_zero (y : Nat) : mulR 0 y = 0 := by unfold mulR; rw [fval_zero, Nat.zero_mul, rn_zero]
theorem mulR_one (x : Nat) (hx : x ≤ double.infRung) : mulR x ONE = x := by
  unfold mulR
  rw [val_one]
  have e : fval double x * 2 ^ (lph + 1) * 2 ^ 0 = fval double x * 2 ^ (lph + 1) := by rw [Nat.pow_zero, Nat.mul_one]
  rw [rn_eq double dF e, rn_val double dF x hx]

/-- A whole number as a float. -/
def intF (n : Nat) : Nat := rn double (n * 2 ^ (lph + 1)) 0
theorem write_int (n : Nat) : double.write (.number false n 0) = intF n := by
  show double.nearest false n 0 = _
  rw [near_rn double dF, d_lp]
  unfold intF
  rw [show ((0 : Int) - -((lph : Int) + 1)).toNat = lph + 1 by omega, show (-((lph : Int) + 1) - 0).toNat = 0 by omega]
theorem intF_mono {n m : Nat} (h : n ≤ m) : intF n ≤ intF m := rn_mono double dF (by rw [Nat.pow_zero]; have := Nat.mul_le_mul_right (2 ^ (lph + 1)) h; omega)
theorem intF_zero : intF 0 = 0 := by unfold intF; rw [Nat.zero_mul, rn_zero]
theorem intF_one : intF 1 = ONE := by unfold intF; rw [Nat.one_mul, ← val_one, rn_val double dF ONE (by rw [d_inf]; decide)]
theorem intF_le (n : Nat) : intF n ≤ double.infRung := rn_le_inf _ _ _
theorem val_pow63 : fval double (4890909195324358656) = 2 ^ (lph + 1 + 63) := by
  have := val_pow (lph + 12)
  rw [show (lph + 12) * double.binade + double.binade = 4890909195324358656 by rw [d_bin]; rfl, show 52 + (lph + 12) = lph + 1 + 63 from rfl] at this
  exact this
theorem intF_lt (n : Nat) (h : n ≤ 9223372036854775808) : intF n < double.infRung := by
  have : intF n ≤ 4890909195324358656 := by
    apply rn_le double dF (by rw [d_inf]; decide)
    rw [val_pow63, Nat.pow_zero, Nat.mul_one, Nat.pow_add 2 (lph + 1) 63, Nat.mul_comm]
    exact Nat.mul_le_mul_left _ (Nat.le_trans h (by decide))
  rw [d_inf]
  omega
/-- One and what counts of a weight is finite. -/
theorem addR_one_lt (c : Nat) (hc : c < double.infRung) : addR ONE c < double.infRung := by
  have hm := max_inf
  have h1 : addR ONE c ≤ addR ONE MAXR := addR_mono (Nat.le_refl _) (by omega)
  rcases Nat.lt_or_ge (addR ONE MAXR) double.infRung with h | h
  · omega
  · exfalso
    rw [← hm] at h
    have h2 := (rn_ge double dF _ _ MAXR (by omega)).1 h
    rw [val_one, Nat.pow_zero, Nat.mul_one] at h2
    have e1 : fval double MAXR = (2 * double.binade - 1) * 2 ^ (lph + 972) := by
      have := fval_form double (lph + 972) (2 * double.binade - 1) (.inr (by rw [d_bin]; decide))
      rw [show (lph + 972) * double.binade + (2 * double.binade - 1) = MAXR by rw [d_bin]; rfl] at this
      exact this
    have e2 : fval double (MAXR + 1) = (2 * double.binade) * 2 ^ (lph + 972) := by
      have := fval_form double (lph + 972) (2 * double.binade) (.inr (by rw [d_bin]; decide))
      rw [show (lph + 972) * double.binade + 2 * double.binade = MAXR + 1 by rw [d_bin]; rfl] at this
      exact this
    have e3 : (2 * double.binade) * 2 ^ (lph + 972) = (2 * double.binade - 1) * 2 ^ (lph + 972) + 2 ^ (lph + 972) := by
      rw [← Nat.succ_mul, Nat.succ_eq_add_one, show 2 * double.binade - 1 + 1 = 2 * double.binade by rw [d_bin]]
    have e4 : 2 ^ (lph + 1) * 2 < 2 ^ (lph + 972) := by
      rw [← Nat.pow_succ]
      exact Nat.pow_lt_pow_right (by decide) (by omega)
    rw [e2, e3, e1] at h2
    rcases h2 with h2 | ⟨h2, _⟩ <;> omega

/-- Halving. -/
theorem halfR_le (r : Nat) (hr : r ≤ double.infRung) : halfR r ≤ r := rn_le double dF hr (by rw [Nat.pow_one]; omega)
theorem halfR_zero : halfR 0 = 0 := by unfold halfR; rw [fval_zero, rn_zero]
theorem halfR_big (r : Nat) (hr : r < double.infRung) (h : 2 * double.binade ≤ r) : halfR r + double.binade = r := by
  obtain ⟨e, k, rfl, h1, h2⟩ := rung_form double r
  have he : 1 ≤ e := by
    rcases Nat.eq_zero_or_pos e with h' | h'
    · subst h'; omega
    · exact h'
  obtain ⟨e', rfl⟩ : ∃ e', e = e' + 1 := ⟨e - 1, by omega⟩
  have hk : double.binade ≤ k := by omega
  have hsm : (e' + 1) * double.binade = e' * double.binade + double.binade := by rw [Nat.add_mul, Nat.one_mul]
  have hv : fval double ((e' + 1) * double.binade + k) * 2 ^ 0 = fval double (e' * double.binade + k) * 2 ^ 1 := by
    rw [fval_form double (e' + 1) k (.inr ⟨hk, by omega⟩), fval_form double e' k (.inr ⟨hk, by omega⟩), Nat.pow_succ, Nat.pow_zero, Nat.mul_one, Nat.pow_one, Nat.mul_assoc]
  have : halfR ((e' + 1) * double.binade + k) = e' * double.binade + k := by
    unfold halfR
    rw [rn_eq double dF hv, rn_val double dF _ (by omega)]
  omega
theorem val_small (r : Nat) (h : r ≤ 2 * double.binade) : fval double r = r := by
  have := fval_form double 0 r (.inl ⟨rfl, h⟩)
  rwa [Nat.zero_mul, Nat.zero_add, Nat.pow_zero, Nat.mul_one] at this
theorem halfR_small (r : Nat) (h : r < 2 * double.binade) : halfR r ≤ (r + 1) / 2 := by
  have hi : (r + 1) / 2 ≤ double.infRung := by rw [d_bin] at h; rw [d_inf]; omega
  apply rn_le double dF hi
  rw [val_small r (by omega), val_small ((r + 1) / 2) (by omega), Nat.pow_one]
  omega
theorem halfR_one : halfR 1 = 0 := by
  rcases Nat.eq_zero_or_pos (halfR 1) with h | h
  · exact h
  · exfalso
    have h2 := (rn_ge double dF _ _ 0 (by rw [d_inf]; decide)).1 h
    rw [fval_zero, val_small 1 (by rw [d_bin]; decide)] at h2
    rcases h2 with h2 | ⟨_, h2⟩ <;> omega
def halfN : Nat → Nat → Nat
  | 0, r => r
  | n + 1, r => halfN n (halfR r)
theorem halfN_nil (n : Nat) : halfN n 0 = 0 := by
  induction n with
  | zero => rfl
  | succ n ih => rw [halfN, halfR_zero, ih]
theorem halfN_small (j : Nat) (hj : j ≤ 53) : ∀ (n r : Nat), r ≤ 2 ^ j → j < n → r < 2 * double.binade → halfN n r = 0 := by
  induction j with
  | zero =>
    intro n r h1 h2 h3
    obtain ⟨m, rfl⟩ : ∃ m, n = m + 1 := ⟨n - 1, by omega⟩
    rw [halfN]
    have : r = 0 ∨ r = 1 := by rw [Nat.pow_zero] at h1; omega
    rcases this with rfl | rfl
    · rw [halfR_zero, halfN_nil]
    · rw [halfR_one, halfN_nil]
  | succ j ih =>
    intro n r h1 h2 h3
    obtain ⟨m, rfl⟩ : ∃ m, n = m + 1 := ⟨n - 1, by omega⟩
    rw [halfN]
    have hs := halfR_small r h3
    rw [Nat.pow_succ] at h1
    exact ih (by omega) m _ (by omega) (by omega) (by omega)
theorem halfN_all (t : Nat) : ∀ (n r : Nat), r < (t + 2) * double.binade → r < double.infRung → t + 53 < n → halfN n r = 0 := by
  have hB : 2 * double.binade = 2 ^ 53 := by rw [d_bin]
  induction t with
  | zero =>
    intro n r h1 _ h2
    exact halfN_small 53 (Nat.le_refl _) n r (by omega) (by omega) (by omega)
  | succ t ih =>
    intro n r h1 hi h2
    by_cases h : r < 2 * double.binade
    · exact halfN_small 53 (Nat.le_refl _) n r (by omega) (by omega) h
    · obtain ⟨m, rfl⟩ : ∃ m, n = m + 1 := ⟨n - 1, by omega⟩
      rw [halfN]
      have hb := halfR_big r hi (by omega)
      have e : (t + 1 + 2) * double.binade = (t + 2) * double.binade + double.binade := by rw [show t + 1 + 2 = t + 2 + 1 by omega, Nat.succ_mul]
      exact ih m _ (by omega) (by omega) (by omega)
/-- Whatever was there, halved 2200 times nothing is left. -/
theorem halfN_2200 (r : Nat) (hr : r < double.infRung) : halfN 2200 r = 0 := by
  refine halfN_all 2045 2200 r ?_ hr (by decide)
  rw [d_bin]
  rw [d_inf] at hr
  omega
/-- What a weight decays to. -/
def decayT (old : Nat) (n : Int) : Nat := cleanT (addR (halfR (cleanT old)) (intF n.toNat))
theorem decayT_zero (x : Nat) (hx : x < double.infRung) : decayT x 0 = halfR x := by
  unfold decayT
  have h := halfR_le x (by omega)
  rw [cleanT_fix x hx, Int.toNat_zero, intF_zero, addR_zero _ (by omega), cleanT_fix _ (by omega)]
/-- What a load costs. -/
def costT (load : Int) (w : Nat) : Nat := if load < 0 then 0 else mulR (intF load.toNat) (addR ONE (cleanT w))
theorem costT_le (load : Int) (w : Nat) : costT load w ≤ double.infRung := by unfold costT; split; exact Nat.zero_le _; exact mulR_le _ _
theorem costT_load {load more : Int} (w : Nat) (h : load ≤ more) : costT load w ≤ costT more w := by
  unfold costT
  by_cases h1 : load < 0
  · rw [if_pos h1]; exact Nat.zero_le _
  · rw [if_neg h1, if_neg (by omega)]
    exact mulR_mono (intF_mono (by omega)) (Nat.le_refl _)
theorem costT_weight (load : Int) {w v : Nat} (h : cleanT w ≤ cleanT v) : costT load w ≤ costT load v := by
  unfold costT
  by_cases h1 : load < 0
  · rw [if_pos h1]; exact Nat.zero_le _
  · rw [if_neg h1, if_neg h1]
    exact mulR_mono (Nat.le_refl _) (addR_mono (Nat.le_refl _) h)
/-- The total of some weights. -/
def totT (l : List Nat) : Nat := l.foldl (fun t x => cleanT (addR t (cleanT x))) 0
theorem totT_snoc (l : List Nat) (x : Nat) : totT (l ++ [x]) = cleanT (addR (totT l) (cleanT x)) := by unfold totT; rw [List.foldl_append]; rfl
theorem totT_lt (l : List Nat) : totT l < double.infRung := by
  rcases List.eq_nil_or_concat l with rfl | ⟨L, x, rfl⟩
  · show 0 < _; rw [d_inf]; decide
  · rw [List.concat_eq_append, totT_snoc]; exact cleanT_lt _
theorem tot_step (t c : Nat) (ht : t < double.infRung) (hc : c < double.infRung) : t ≤ cleanT (addR t c) ∧ c ≤ cleanT (addR t c) := by
  have hm := max_inf
  rw [cleanT_rung _ (addR_le t c)]
  have h1 := addR_left t c (by omega)
  have h2 := addR_right t c (by omega)
  omega
/-- No weight counts more than the total. -/
theorem totT_ge (l : List Nat) (x : Nat) (h : x ∈ l) : cleanT x ≤ totT l := by
  have key : ∀ (n : Nat) (l : List Nat), l.length = n → x ∈ l → cleanT x ≤ totT l := by
    intro n
    induction n with
    | zero => intro l hl hx; rw [List.eq_nil_of_length_eq_zero hl] at hx; simp at hx
    | succ n ih =>
      intro l hl hx
      rcases List.eq_nil_or_concat l with rfl | ⟨L, y, rfl⟩
      · simp at hl
      · rw [List.concat_eq_append] at hl hx ⊢
        rw [totT_snoc]
        have hs := tot_step (totT L) (cleanT y) (totT_lt L) (cleanT_lt y)
        rcases List.mem_append.1 hx with h1 | h1
        · exact Nat.le_trans (ih L (by simpa using hl) h1) hs.1
        · have : x = y := by simpa using h1
          rw [this]; exact hs.2
  exact key _ l rfl h
end Go.Proofs.Ytjmpakngbdemgaa
namespace Go.Proofs.Ytjmpakngbdemgaa
open Ieee

theorem read_rung2 (f : Format) (r : Nat) (hr : r < f.infRung) : ∃ m i, f.read r = .number false m i ∧ f.leastPlace ≤ i ∧ m * 2 ^ (i - f.leastPlace).toNat = fval f r ∧ m < 2 * f.binade := by
  have hsw := f.infRung_lt
  have h1 : r / f.signWeight = 0 := Nat.div_eq_of_lt (by omega)
  have h2 : r % f.signWeight = r := Nat.mod_eq_of_lt (by omega)
  have hp := binade_pos f
  unfold Format.read fval
  rw [h1, h2]
  by_cases h : r < f.binade
  · simp only [h, if_true]
    exact ⟨r, f.leastPlace, rfl, Int.le_refl _, by simp, by omega⟩
  · simp only [h, if_false, hr, if_true]
    refine ⟨f.binade + r % f.binade, _, rfl, by omega, ?_, by have := Nat.mod_lt r hp; omega⟩
    rw [show (f.leastPlace + ((r / f.binade - 1 : Nat) : Int) - f.leastPlace).toNat = r / f.binade - 1 by omega]
theorem read_two : double.read TWO = .number false 4503599627370496 (-51) := by decide
theorem log2_bin : Nat.log2 4503599627370496 = 52 := by decide
/-- Divided by two: half. -/
theorem div_two (x : Nat) (hx : x < double.infRung) : double.div x TWO = some (halfR x) := by
  obtain ⟨m, i, e1, h1, h2, h3⟩ := read_rung2 double x hx
  unfold Format.div
  rw [e1, read_two]
  show (Datum.quotient (double.fractionBits + 2) (.number false m i) (.number false 4503599627370496 (-51))).map double.write = _
  unfold Datum.quotient
  simp only [show (4503599627370496 : Nat) ≠ 0 by decide, if_false, Option.map_some, Bool.xor_false, Nat.shiftLeft_eq, log2_bin]
  have hfb : double.fractionBits + 2 = 54 := rfl
  rw [hfb]
  have hlog : m.log2 ≤ 52 := by
    rcases Nat.eq_zero_or_pos m with h | h
    · subst h; decide
    · have : m.log2 < 53 := (Nat.log2_lt (by omega)).2 (by rw [d_bin] at h3; omega)
      omega
  obtain ⟨t, ht⟩ : ∃ t, 54 + 52 - m.log2 = t + 52 := ⟨54 - m.log2, by omega⟩
  rw [ht]
  have e2 : m * 2 ^ (t + 52) = 4503599627370496 * (m * 2 ^ t) := by
    rw [Nat.pow_add, ← Nat.mul_assoc, Nat.mul_comm]
  rw [e2, Nat.mul_div_cancel_left _ (by decide), Nat.mul_mod_right]
  show some (double.nearest false (2 * (m * 2 ^ t) + 0) (i - -51 - ((t + 52 : Nat) : Int) - 1)) = _
  rw [near_rn double dF]
  unfold halfR
  have key : (2 * (m * 2 ^ t) + 0) * 2 ^ (i - -51 - ((t + 52 : Nat) : Int) - 1 - double.leastPlace).toNat * 2 ^ 1 = fval double x * 2 ^ (double.leastPlace - (i - -51 - ((t + 52 : Nat) : Int) - 1)).toNat := by
    rw [← h2, Nat.add_zero]
    obtain ⟨LP, hLP⟩ : ∃ LP, LP = double.leastPlace := ⟨_, rfl⟩
    rw [← hLP] at h1 ⊢
    rw [show (i - -51 - ((t + 52 : Nat) : Int) - 1 - LP) = (i - LP) - (t : Int) - 2 by omega, show (LP - (i - -51 - ((t + 52 : Nat) : Int) - 1)) = (t : Int) + 2 - (i - LP) by omega]
    obtain ⟨a, ha⟩ : ∃ a : Nat, (i - LP) = a := ⟨(i - LP).toNat, by omega⟩
    rw [ha]
    have e3 : 2 * (m * 2 ^ t) = m * 2 ^ (t + 1) := by rw [Nat.pow_succ, Nat.mul_comm 2, Nat.mul_assoc]
    have hAB : t + 1 + ((a : Int) - (t : Int) - 2).toNat + 1 = ((a : Int)).toNat + ((t : Int) + 2 - (a : Int)).toNat := by omega
    have e4 : m * 2 ^ (t + 1) * 2 ^ ((a : Int) - (t : Int) - 2).toNat * 2 ^ 1 = m * 2 ^ (t + 1 + ((a : Int) - (t : Int) - 2).toNat + 1) := by
      obtain ⟨z, hz⟩ : ∃ z, z = ((a : Int) - (t : Int) - 2).toNat := ⟨_, rfl⟩
      rw [← hz, Nat.pow_add 2 (t + 1 + z) 1, Nat.pow_add 2 (t + 1) z, Nat.mul_assoc m, Nat.mul_assoc m]
    have e5 : m * 2 ^ ((a : Int)).toNat * 2 ^ ((t : Int) + 2 - (a : Int)).toNat = m * 2 ^ (((a : Int)).toNat + ((t : Int) + 2 - (a : Int)).toNat) := by rw [Nat.mul_assoc, ← Nat.pow_add]
    rw [e3, e4, e5, hAB]
  rw [rn_eq double dF key]
end Go.Proofs.Ytjmpakngbdemgaa
namespace Go.Proofs.Ytjmpakngbdemgaa

/-- One place stands ahead of another: by what it holds, and of those that stand alike the lower one. -/
def ahead (K : Nat → Int) (i j : Nat) : Prop := K i < K j ∨ (K i = K j ∧ i < j)
theorem ahead_asymm {K : Nat → Int} {i j : Nat} (h : ahead K i j) (h' : ahead K j i) : False := by unfold ahead at h h'; omega
theorem ahead_trans {K : Nat → Int} {i j k : Nat} (h : ahead K i j) (h' : ahead K j k) : ahead K i k := by unfold ahead at h h' ⊢; omega
theorem ahead_total {K : Nat → Int} {i j : Nat} (h : i ≠ j) : ahead K i j ∨ ahead K j i := by unfold ahead; omega
/-- All places below n, in their order. -/
def IsOrd (K : Nat → Int) (n : Nat) (o : List Nat) : Prop := (∀ i, i ∈ o ↔ i < n) ∧ o.Pairwise (ahead K)
theorem ord_ext {K : Nat → Int} : ∀ {o p : List Nat}, o.Pairwise (ahead K) → p.Pairwise (ahead K) → (∀ x, x ∈ o ↔ x ∈ p) → o = p
  | [], [], _, _, _ => rfl
  | [], b :: p, _, _, h => absurd ((h b).2 (by simp)) (by simp)
  | a :: o, [], _, _, h => absurd ((h a).1 (by simp)) (by simp)
  | a :: o, b :: p, ho, hp, h => by
    rw [List.pairwise_cons] at ho hp
    have hab : a = b := by
      rcases Nat.lt_trichotomy a b with hl | hl | hl
      · exfalso
        have h1 : a ∈ p := by rcases List.mem_cons.1 ((h a).1 (by simp)) with e | e; omega; exact e
        have h2 : b ∈ o := by rcases List.mem_cons.1 ((h b).2 (by simp)) with e | e; omega; exact e
        exact ahead_asymm (ho.1 b h2) (hp.1 a h1)
      · exact hl
      · exfalso
        have h1 : a ∈ p := by rcases List.mem_cons.1 ((h a).1 (by simp)) with e | e; omega; exact e
        have h2 : b ∈ o := by rcases List.mem_cons.1 ((h b).2 (by simp)) with e | e; omega; exact e
        exact ahead_asymm (ho.1 b h2) (hp.1 a h1)
    subst hab
    have ha : a ∉ o := fun e => ahead_asymm (ho.1 a e) (ho.1 a e)
    have hb : a ∉ p := fun e => ahead_asymm (hp.1 a e) (hp.1 a e)
    rw [ord_ext ho.2 hp.2 fun x => ?_]
    constructor
    · intro hx
      rcases List.mem_cons.1 ((h x).1 (List.mem_cons_of_mem _ hx)) with e | e
      · rw [e] at hx; exact absurd hx ha
      · exact e
    · intro hx
      rcases List.mem_cons.1 ((h x).2 (List.mem_cons_of_mem _ hx)) with e | e
      · rw [e] at hx; exact absurd hx hb
      · exact e
/-- There is just one such list. -/
theorem ord_one {K : Nat → Int} {n : Nat} {o p : List Nat} (ho : IsOrd K n o) (hp : IsOrd K n p) : o = p := ord_ext ho.2 hp.2 fun x => (ho.1 x).trans (hp.1 x).symm

/-- The first of those that are left, picked one by one. -/
def PartOrd (K : Nat → Int) (n : Nat) (o : List Nat) : Prop := (∀ i ∈ o, i < n) ∧ o.Pairwise (ahead K) ∧ ∀ i ∈ o, ∀ j, j < n → j ∉ o → ahead K i j
theorem part_nil (K : Nat → Int) (n : Nat) : PartOrd K n [] := ⟨fun _ h => by simp at h, List.Pairwise.nil, fun _ h => by simp at h⟩
/-- The first of those below m that are left. -/
def IsFirst (K : Nat → Int) (o : List Nat) (m b : Nat) : Prop := b < m ∧ b ∉ o ∧ ∀ j, j < m → j ∉ o → j ≠ b → ahead K b j
theorem part_snoc {K : Nat → Int} {n : Nat} {o : List Nat} {b : Nat} (h : PartOrd K n o) (hb : IsFirst K o n b) : PartOrd K n (o ++ [b]) := by
  obtain ⟨h1, h2, h3⟩ := h
  obtain ⟨b1, b2, b3⟩ := hb
  refine ⟨fun i hi => ?_, ?_, fun i hi j hj hjn => ?_⟩
  · rcases List.mem_append.1 hi with h | h
    · exact h1 i h
    · have : i = b := by simpa using h
      omega
  · rw [List.pairwise_append]
    refine ⟨h2, by simp, fun i hi j hj => ?_⟩
    have : j = b := by simpa using hj
    rw [this]
    exact h3 i hi b b1 b2
  · have hj1 : j ∉ o := fun e => hjn (List.mem_append_left _ e)
    have hj2 : j ≠ b := fun e => hjn (by rw [e]; simp)
    rcases List.mem_append.1 hi with h | h
    · exact h3 i h j hj hj1
    · have : i = b := by simpa using h
      rw [this]
      exact b3 j hj hj1 hj2
/-- How the first is found: none yet, or one, below m; the next place is m. -/
theorem first_skip {K : Nat → Int} {o : List Nat} {m b : Nat} (h : IsFirst K o m b) (hm : m ∈ o ∨ ¬ K m < K b) : IsFirst K o (m + 1) b := by
  obtain ⟨h1, h2, h3⟩ := h
  refine ⟨by omega, h2, fun j hj hjo hjb => ?_⟩
  by_cases e : j = m
  · subst e
    rcases hm with hm | hm
    · exact absurd hm hjo
    · unfold ahead; omega
  · exact h3 j (by omega) hjo hjb
theorem first_take {K : Nat → Int} {o : List Nat} {m b : Nat} (h : IsFirst K o m b) (hm : m ∉ o) (hk : K m < K b) : IsFirst K o (m + 1) m := by
  obtain ⟨h1, h2, h3⟩ := h
  refine ⟨by omega, hm, fun j hj hjo hjm => ?_⟩
  by_cases e : j = b
  · subst e; exact .inl hk
  · exact ahead_trans (.inl hk) (h3 j (by omega) hjo e)
theorem first_begin {K : Nat → Int} {o : List Nat} {m : Nat} (hm : m ∉ o) (h : ∀ j, j < m → j ∈ o) : IsFirst K o (m + 1) m :=
  ⟨by omega, hm, fun j hj hjo hjm => absurd (h j (by omega)) hjo⟩
/-- A list of different places below n has at most n of them; with n all are there. -/
theorem places_le (n : Nat) : ∀ (o : List Nat), (∀ i ∈ o, i < n) → o.Nodup → o.length ≤ n := by
  induction n with
  | zero =>
    intro o h _
    cases o with
    | nil => simp
    | cons a o => have := h a (by simp); omega
  | succ n ih =>
    intro o h hn
    have h1 := ih (o.erase n) (fun i hi => by
      have h2 := h i (List.mem_of_mem_erase hi)
      have h3 : i ≠ n := fun e => by rw [e] at hi; exact (List.Nodup.not_mem_erase hn) hi
      omega) (hn.erase n)
    have h4 : o.length ≤ (o.erase n).length + 1 := by rw [List.length_erase]; split <;> omega
    omega
theorem places_all (n : Nat) (o : List Nat) (h : ∀ i ∈ o, i < n) (hn : o.Nodup) (hl : o.length = n) (i : Nat) (hi : i < n) : i ∈ o := by
  rcases Classical.em (i ∈ o) with hm | hm
  · exact hm
  · exfalso
    have := places_le n (i :: o) (fun j hj => by rcases List.mem_cons.1 hj with e | e; omega; exact h j e) (List.nodup_cons.2 ⟨hm, hn⟩)
    simp at this
    omega
theorem part_nodup {K : Nat → Int} {n : Nat} {o : List Nat} (h : PartOrd K n o) : o.Nodup :=
  h.2.1.imp fun hab e => by rw [e] at hab; exact ahead_asymm hab hab
/-- When so many were picked as there are, all are in their order. -/
theorem part_all {K : Nat → Int} {n : Nat} {o : List Nat} (h : PartOrd K n o) (hl : o.length = n) : IsOrd K n o :=
  ⟨fun i => ⟨h.1 i, places_all n o h.1 (part_nodup h) hl i⟩, h.2.1⟩
theorem sub_len : ∀ (l o : List Nat), l.Nodup → (∀ x ∈ l, x ∈ o) → l.length ≤ o.length
  | [], _, _, _ => Nat.zero_le _
  | a :: l, o, hn, h => by
    rw [List.nodup_cons] at hn
    have ha : a ∈ o := h a (by simp)
    have h1 := sub_len l (o.erase a) hn.2 fun x hx => by
      have hne : x ≠ a := fun e => hn.1 (by rw [← e]; exact hx)
      exact (List.mem_erase_of_ne hne).2 (h x (by simp [hx]))
    have h2 : (o.erase a).length = o.length - 1 := List.length_erase_of_mem ha
    have h3 : 0 < o.length := List.length_pos_of_mem ha
    simp only [List.length_cons]
    omega
theorem part_more {n : Nat} {o : List Nat} (hl : o.length < n) : ∃ i, i < n ∧ i ∉ o := by
  rcases Classical.em (∃ i, i < n ∧ i ∉ o) with h1 | h1
  · exact h1
  · exfalso
    have h3 := sub_len (List.range n) o List.nodup_range fun i hi => Classical.byContradiction fun h3 => h1 ⟨i, List.mem_range.1 hi, h3⟩
    rw [List.length_range] at h3
    omega
end Go.Proofs.Ytjmpakngbdemgaa
namespace Go.Proofs.Ytjmpakngbdemgaa
open Ieee

/-- Where a word stands among all: what is no number behind all others. -/
def placeT (b : Nat) : Int := if isN double b = true then 9223372036854775807 else plc double b
theorem plc_le (b : Nat) (hb : b < 2 * double.signWeight) (hn : isN double b = false) : -9218868437227405312 ≤ plc double b ∧ plc double b ≤ 9218868437227405312 := by
  obtain ⟨s, r, hr, e1, e2, e3⟩ := word_split double b hb
  unfold isN at hn
  rw [e1, d_inf] at hn
  have : r ≤ 9218868437227405312 := by simpa using hn
  rw [e3]
  unfold sg
  cases s <;> simp <;> omega
theorem placeT_le (b : Nat) (hb : b < 2 * double.signWeight) : placeT b ≤ 9223372036854775807 := by
  unfold placeT
  cases h : isN double b with
  | true => simp
  | false => have := plc_le b hb h; simp; omega
theorem placeT_nan (b : Nat) (h : isN double b = true) : placeT b = 9223372036854775807 := by unfold placeT; rw [if_pos h]
theorem placeT_num (b : Nat) (h : isN double b = false) : placeT b = plc double b := by unfold placeT; rw [if_neg (by rw [h]; simp)]
theorem less_nan (x y : Nat) (hy : y < 2 * double.signWeight) (h : isN double x = true) : ¬ placeT x < placeT y := by
  have := placeT_le y hy
  rw [placeT_nan x h]
  omega
theorem less_num_nan (x y : Nat) (hx : x < 2 * double.signWeight) (h : isN double x = false) (h' : isN double y = true) : placeT x < placeT y := by
  have := plc_le x hx h
  rw [placeT_nan y h', placeT_num x h]
  omega
theorem order_place (x y : Nat) (hx : x < 2 * double.signWeight) (hy : y < 2 * double.signWeight) (h : isN double x = false) (h' : isN double y = false) : double.order x y = some (compare (placeT x) (placeT y)) := by
  rw [order_word double dE x y hx hy h h', placeT_num x h, placeT_num y h']
theorem some_lt (a b : Int) : (some (compare a b) == some Ordering.lt) = decide (a < b) := by
  rcases Int.lt_trichotomy a b with h | h | h
  · rw [cmp_lt h]; simp [h]
  · rw [cmp_eq h]; simp [h]
  · rw [cmp_gt h]; simp; omega
theorem some_eq (a b : Int) : (some (compare a b) == some Ordering.eq) = decide (a = b) := by
  rcases Int.lt_trichotomy a b with h | h | h
  · rw [cmp_lt h]; simp; omega
  · rw [cmp_eq h]; simp [h]
  · rw [cmp_gt h]; simp; omega
theorem some_gt (a b : Int) : (some (compare a b) == some Ordering.gt) = decide (b < a) := by
  rcases Int.lt_trichotomy a b with h | h | h
  · rw [cmp_lt h]; simp; omega
  · rw [cmp_eq h]; simp [h]
  · rw [cmp_gt h]; simp [h]
theorem rung_num (r : Nat) (h : r ≤ double.infRung) : isN double r = false ∧ plc double r = (r : Int) := by
  have h2 := double.infRung_lt
  unfold isN plc
  rw [Nat.mod_eq_of_lt (by omega), if_neg (by omega)]
  simp
  omega
/-- Two rungs are compared as numbers. -/
theorem order_rung (x y : Nat) (hx : x ≤ double.infRung) (hy : y ≤ double.infRung) : double.order x y = some (compare (x : Int) (y : Int)) := by
  have h2 := double.infRung_lt
  rw [order_word double dE x y (by omega) (by omega) (rung_num x hx).1 (rung_num y hy).1, (rung_num x hx).2, (rung_num y hy).2]
end Go.Proofs.Ytjmpakngbdemgaa
namespace Go.Proofs.Ytjmpakngbdemgaa
open Go Go.Lib Go.RowKit Ieee
set_option maxRecDepth 20000

theorem f64d : FloatKind.f64.format = double := rfl
/-- A word's bits. -/
def Wd (x : Nat) : Prop := x < 2 * double.signWeight
theorem wd_iff (x : Nat) : Wd x ↔ x < 18446744073709551616 := by unfold Wd; rw [d_sw]
theorem wd_rung {x : Nat} (h : x ≤ double.infRung) : Wd x := by rw [wd_iff]; rw [d_inf] at h; omega
theorem nan_iff (x : Nat) : isN double x = true ↔ double.infRung < x % double.signWeight := by unfold isN; simp
theorem num_iff (x : Nat) : isN double x = false ↔ x % double.signWeight ≤ double.infRung := by unfold isN; simp
theorem order_gt0 (x : Nat) (hx : Wd x) : (FloatKind.f64.format.order x 0 == some Ordering.gt) = decide (0 < x ∧ x ≤ double.infRung) := by
  rw [f64d]
  have h2 := double.infRung_lt
  cases hn : isN double x with
  | true =>
    rw [order_nan double dE x 0 (.inl hn)]
    have h := (nan_iff x).1 hn
    have : ¬ (0 < x ∧ x ≤ double.infRung) := fun ⟨_, h3⟩ => by rw [Nat.mod_eq_of_lt (by omega)] at h; omega
    rw [decide_eq_false this]; rfl
  | false =>
    have h := (num_iff x).1 hn
    rw [order_word double dE x 0 hx (by rw [d_sw]; decide) hn (rung_num 0 (Nat.zero_le _)).1, (rung_num 0 (Nat.zero_le _)).2, some_gt]
    apply decide_eq_decide.2
    unfold plc
    by_cases hs : double.signWeight ≤ x
    · rw [if_pos hs]; omega
    · rw [if_neg hs]
      rw [Nat.mod_eq_of_lt (by omega)] at h
      omega
theorem order_gtM (x : Nat) (hx : Wd x) : (FloatKind.f64.format.order x 9218868437227405311 == some Ordering.gt) = decide (x = double.infRung) := by
  rw [f64d]
  have h2 := double.infRung_lt
  have hm : (9218868437227405311 : Nat) + 1 = double.infRung := max_inf
  cases hn : isN double x with
  | true =>
    rw [order_nan double dE x _ (.inl hn)]
    have h := (nan_iff x).1 hn
    have : ¬ (x = double.infRung) := fun h3 => by rw [Nat.mod_eq_of_lt (by omega)] at h; omega
    rw [decide_eq_false this]; rfl
  | false =>
    have h := (num_iff x).1 hn
    have hr := rung_num 9218868437227405311 (by omega)
    rw [order_word double dE x _ hx (by rw [d_sw]; decide) hn hr.1, hr.2, some_gt]
    apply decide_eq_decide.2
    unfold plc
    by_cases hs : double.signWeight ≤ x
    · rw [if_pos hs]; omega
    · rw [if_neg hs]
      rw [Nat.mod_eq_of_lt (by omega)] at h
      omega
theorem order_self (x : Nat) (hx : Wd x) : (FloatKind.f64.format.order x x == some Ordering.eq) = !(isN double x) := by
  rw [f64d]
  cases hn : isN double x with
  | true => rw [order_nan double dE x _ (.inl hn)]; rfl
  | false => rw [order_word double dE x x hx hx hn hn, some_eq]; simp
theorem cleanT_none (x : Nat) (h : ¬ (0 < x ∧ x ≤ double.infRung)) : cleanT x = 0 := by
  unfold cleanT
  split
  · rfl
  · omega
theorem clean_any (x : Nat) (hx : Wd x) (w : World) : Calls Try.prog 18 #[.float .f64 x] w fun e w' => e = .returned (.float .f64 (cleanT x)) ∧ w' = w := by
  have h1 := order_gt0 x hx
  have h2 := order_gtM x hx
  have hm : (9218868437227405311 : Nat) + 1 = double.infRung := max_inf
  by_cases c1 : 0 < x ∧ x ≤ double.infRung
  · rw [decide_eq_true c1] at h1
    by_cases c2 : x = double.infRung
    · have HV : Hid (cleanT x = 9218868437227405311) := by show _ = _; rw [cleanT_rung x c1.2]; unfold MAXR; omega
      rw [decide_eq_true c2] at h2
      clear c1 c2 hx hm
      go_enter Try.func18, Try.ntmps18
      go_wp2
      go_ret
      exact ⟨by rw [HV.out]; rfl, rfl⟩
    · have HV : Hid (cleanT x = x) := cleanT_fix x (by omega)
      rw [decide_eq_false c2] at h2
      clear c1 c2 hx hm
      go_enter Try.func18, Try.ntmps18
      go_wp2
      go_ret
      exact ⟨by rw [HV.out]; rfl, rfl⟩
  · have HV : Hid (cleanT x = 0) := cleanT_none x c1
    rw [decide_eq_false c1] at h1
    clear c1 hx hm h2
    go_enter Try.func18, Try.ntmps18
    go_wp2
    go_ret
    exact ⟨by rw [HV.out]; rfl, rfl⟩
theorem isnan_any (x : Nat) (hx : Wd x) (w : World) : Calls Try.prog 19 #[.float .f64 x] w fun e w' => e = .returned (.bool (isN double x)) ∧ w' = w := by
  have h1 := order_self x hx
  clear hx
  generalize isN double x = b at h1 ⊢
  cases b
  · go_enter Try.func19, Try.ntmps19
    go_wp2
    go_ret
    exact ⟨by simpa using h1, rfl⟩
  · go_enter Try.func19, Try.ntmps19
    go_wp2
    go_ret
    exact ⟨by simpa using h1, rfl⟩
theorem order_lss (x y : Nat) (hx : Wd x) (hy : Wd y) : (FloatKind.f64.format.order x y == some Ordering.lt) = (!(isN double x) && !(isN double y) && decide (placeT x < placeT y)) := by
  rw [f64d]
  cases h : isN double x with
  | true => rw [order_nan double dE x y (.inl h)]; rfl
  | false =>
    cases h' : isN double y with
    | true => rw [order_nan double dE x y (.inr h')]; rfl
    | false => rw [order_place x y hx hy h h', some_lt]; simp
/-- Less. -/
theorem less_any (x y : Nat) (hx : Wd x) (hy : Wd y) (w : World) : Calls Try.prog 15 #[.float .f64 x, .float .f64 y] w fun e w' => e = .returned (.bool (decide (placeT x < placeT y))) ∧ w' = w := by
  have HN : Hid (∀ x W, Wd x → Calls Try.prog 19 #[.float .f64 x] W fun e w' => e = .returned (.bool (isN double x)) ∧ w' = W) := fun x W h => isnan_any x h W
  have HX : Hid (Wd x) := hx
  have HY : Hid (Wd y) := hy
  have h1 := order_lss x y hx hy
  cases hn : isN double x with
  | true =>
    have HV : Hid (decide (placeT x < placeT y) = false) := decide_eq_false (less_nan x y hy hn)
    rw [hn] at h1
    clear hx hy
    go_enter Try.func15, Try.ntmps15
    go_wp2_with (go_at_call 19; refine (HN.out _ _ (by first | exact HX.out | exact HY.out)).mono ?_; rintro e w' ⟨rfl, rfl⟩; try rw [hn])
    go_ret
    exact ⟨by rw [HV.out]; rfl, rfl⟩
  | false =>
    cases hn' : isN double y with
    | true =>
      have HV : Hid (decide (placeT x < placeT y) = true) := decide_eq_true (less_num_nan x y hx hn hn')
      rw [hn, hn'] at h1
      clear hx hy
      go_enter Try.func15, Try.ntmps15
      go_wp2_with (go_at_call 19; refine (HN.out _ _ (by first | exact HX.out | exact HY.out)).mono ?_; rintro e w' ⟨rfl, rfl⟩; try (first | rw [hn] | rw [hn']))
      go_ret
      exact ⟨by rw [HV.out]; rfl, rfl⟩
    | false =>
      rw [hn, hn'] at h1
      clear hx hy
      generalize decide (placeT x < placeT y) = tb at h1 ⊢
      simp only [Bool.not_false, Bool.true_and] at h1
      go_enter Try.func15, Try.ntmps15
      go_wp2_with (go_at_call 19; refine (HN.out _ _ (by first | exact HX.out | exact HY.out)).mono ?_; rintro e w' ⟨rfl, rfl⟩; try (first | rw [hn] | rw [hn']))
      go_ret
      exact ⟨by rfl, rfl⟩
end Go.Proofs.Ytjmpakngbdemgaa
namespace Go.Proofs.Ytjmpakngbdemgaa
open Go Go.Lib Go.RowKit Ieee
set_option maxRecDepth 20000

theorem cast_beq (a b : Nat) : (((a : Nat) : Int) == ((b : Nat) : Int)) = decide (a = b) := by rw [Bool.eq_iff_iff]; simp; omega
end Go.Proofs.Ytjmpakngbdemgaa
namespace Go.Proofs.Ytjmpakngbdemgaa
open Go Go.Lib Go.RowKit Ieee
set_option maxRecDepth 20000

theorem foi (n : Int) (h : 0 ≤ n) : floatOfInt .f64 n = intF n.toNat := by
  have e : floatOfInt .f64 n = double.write (.number (decide (n < 0)) n.natAbs 0) := rfl
  rw [e, decide_eq_false (by omega), write_int, show n.natAbs = n.toNat by omega]
theorem addF (P : Program) (x y : Nat) (hx : x < double.infRung) (hy : y < double.infRung) (t : TypeId) (W : World) : (binOp .add t (.float .f64 x) (.float .f64 y)).run P W = .ok (.float .f64 (addR x y)) W := run_float_arith W .add t .f64 x y _ (add_eq x y hx hy)
theorem mulF (P : Program) (x y : Nat) (hx : x < double.infRung) (hy : y < double.infRung) (t : TypeId) (W : World) : (binOp .mul t (.float .f64 x) (.float .f64 y)).run P W = .ok (.float .f64 (mulR x y)) W := run_float_arith W .mul t .f64 x y _ (mul_eq x y hx hy)
theorem halfM (P : Program) (x : Nat) (hx : x < double.infRung) (t : TypeId) (W : World) : (binOp .mul t (.float .f64 x) (.float .f64 4602678819172646912)).run P W = .ok (.float .f64 (halfR x)) W := run_float_arith W .mul t .f64 x _ _ (mul_half x hx)
theorem halfD (P : Program) (x : Nat) (hx : x < double.infRung) (t : TypeId) (W : World) : (binOp .quo t (.float .f64 x) (.float .f64 4611686018427387904)).run P W = .ok (.float .f64 (halfR x)) W := run_float_arith W .quo t .f64 x _ _ (div_two x hx)
theorem int_lt (n : Int) (h : n ≤ 9223372036854775807) : intF n.toNat < double.infRung := intF_lt _ (by omega)
theorem wd_lt {x : Nat} (h : x < double.infRung) : Wd x := wd_rung (Nat.le_of_lt h)
theorem wd_clean (x : Nat) : Wd (cleanT x) := wd_lt (cleanT_lt x)
/-- Cost. -/
theorem cost_any (load : Int) (v : Nat) (hl : load ≤ 9223372036854775807) (hv : Wd v) (w : World) : Calls Try.prog 13 #[.int .i64 load, .float .f64 v] w fun e w' => e = .returned (.float .f64 (costT load v)) ∧ w' = w := by
  have HC : Hid (∀ x W, Wd x → Calls Try.prog 18 #[.float .f64 x] W fun e w' => e = .returned (.float .f64 (cleanT x)) ∧ w' = W) := fun x W h => clean_any x h W
  have HX : Hid (Wd v) := hv
  by_cases c1 : load < 0
  · have HV : Hid (costT load v = 0) := by show _ = _; unfold costT; rw [if_pos c1]
    clear hl hv
    go_enter Try.func13, Try.ntmps13
    go_wp2
    go_ret
    exact ⟨by rw [HV.out]; rfl, rfl⟩
  · have HV : Hid (costT load v = mulR (intF load.toNat) (addR ONE (cleanT v))) := by show _ = _; unfold costT; rw [if_neg c1]
    have h1 := foi load (by omega)
    have h2 := addF Try.prog ONE (cleanT v) (by rw [d_inf]; decide) (cleanT_lt v)
    have h3 := mulF Try.prog (intF load.toNat) (addR ONE (cleanT v)) (int_lt load hl) (addR_one_lt _ (cleanT_lt v))
    unfold ONE at h2 h3 HV
    generalize costT load v = R at HV ⊢
    generalize intF load.toNat = A at h1 h3 HV
    clear hl hv
    go_enter Try.func13, Try.ntmps13
    go_wp2_with (go_at_call 18; refine (HC.out _ _ HX.out).mono ?_; rintro e w' ⟨rfl, rfl⟩)
    go_ret
    exact ⟨by rw [HV.out]; rfl, rfl⟩
end Go.Proofs.Ytjmpakngbdemgaa
