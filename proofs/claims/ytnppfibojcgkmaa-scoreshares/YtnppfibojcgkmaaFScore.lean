import Derived.Test.YtnppfibojcgkmaaFDbl
namespace Go.Proofs.Ytnppfibojcgkmaa
open Ieee

/-- What counts of a word. -/
def cleanT (b : Nat) : Nat := if double.signWeight ≤ b ∨ double.infRung < b then 0 else min b MAXR
theorem max_inf : MAXR + 1 = double.infRung := by rw [d_inf]; rfl
theorem cleanT_lt (b : Nat) : cleanT b < double.infRung := by
  have := max_inf
  unfold cleanT
  split <;> omega
theorem cleanT_fix (b : Nat) (h : b < double.infRung) : cleanT b = b := by
  have := max_inf
  have h2 := double.infRung_lt
  unfold cleanT
  rw [if_neg (by omega), Nat.min_eq_left (by omega)]
theorem cleanT_rung (b : Nat) (h : b ≤ double.infRung) : cleanT b = min b MAXR := by
  have h2 := double.infRung_lt
  unfold cleanT
  rw [if_neg (by omega)]
theorem cleanT_clean (b : Nat) : cleanT (cleanT b) = cleanT b := cleanT_fix _ (cleanT_lt b)

/-- A sum, a product. -/
def addR (x y : Nat) : Nat := rn double (fval double x + fval double y) 0
def mulR (x y : Nat) : Nat := rn double (fval double x * fval double y) (lph + 1)
theorem add_eq (x y : Nat) (hx : x < double.infRung) (hy : y < double.infRung) : double.add x y = some (addR x y) := add_rung double dF x y hx hy
theorem mul_eq (x y : Nat) (hx : x < double.infRung) (hy : y < double.infRung) : double.mul x y = some (mulR x y) := by
  rw [mul_rung double dF d_lp0 x y hx hy, d_lpn]; rfl
theorem addR_le (x y : Nat) : addR x y ≤ double.infRung := rn_le_inf _ _ _
theorem mulR_le (x y : Nat) : mulR x y ≤ double.infRung := rn_le_inf _ _ _
theorem addR_comm (x y : Nat) : addR x y = addR y x := by unfold addR; rw [Nat.add_comm]
theorem mulR_comm (x y : Nat) : mulR x y = mulR y x := by unfold mulR; rw [Nat.mul_comm]
theorem addR_left (x y : Nat) (hx : x ≤ double.infRung) : x ≤ addR x y := le_rn double dF hx (by rw [Nat.pow_zero]; omega)
theorem addR_right (x y : Nat) (hy : y ≤ double.infRung) : y ≤ addR x y := le_rn double dF hy (by rw [Nat.pow_zero]; omega)
theorem addR_zero (x : Nat) (hx : x ≤ double.infRung) : addR x 0 = x := by unfold addR; rw [fval_zero, Nat.add_zero, rn_val double dF x hx]
theorem addR_mono {x y x' y' : Nat} (h1 : x ≤ x') (h2 : y ≤ y') : addR x y ≤ addR x' y' := by
  have a := fval_le double h1
  have b := fval_le double h2
  exact rn_mono double dF (by rw [Nat.pow_zero]; omega)
theorem mulR_mono {x y x' y' : Nat} (h1 : x ≤ x') (h2 : y ≤ y') : mulR x y ≤ mulR x' y' := by
  have a := fval_le double h1
  have b := fval_le double h2
  exact rn_mono double dF (Nat.mul_le_mul_right _ (Nat.mul_le_mul a b))
theorem mulR_zero (y : Nat) : mulR 0 y = 0 := by unfold mulR; rw [fval_zero, Nat.zero_mul, rn_zero]
theorem mulR_one (x : Nat) (hx : x ≤ double.infRung) : mulR x ONE = x := by
  unfold mulR
  rw [val_one]
  have e : fval double x * 2 ^ (lph + 1) * 2 ^ 0 = fval double x * 2 ^ (lph + 1) := by rw [Nat.pow_zero, Nat.mul_one]
  rw [rn_eq double dF e, rn_val double dF x hx]

/-- A whole number as a float. -/
def intF (n : Nat) : Nat := rn double (n * 2 ^ (lph + 1)) 0
theorem write_int (n : Nat) : double.write (.number false n 0) = intF n := by
  show double.nearest false n 0 = _
  rw [near_rn double dF, d_lp]
  unfold intF
  rw [show ((0 : Int) - -((lph : Int) + 1)).toNat = lph + 1 by omega, show (-((lph : Int) + 1) - 0).toNat = 0 by omega]
theorem intF_mono {n m : Nat} (h : n ≤ m) : intF n ≤ intF m := rn_mono double dF (by rw [Nat.pow_zero]; have := Nat.mul_le_mul_right (2 ^ (lph + 1)) h; omega)
theorem intF_zero : intF 0 = 0 := by unfold intF; rw [Nat.zero_mul, rn_zero]
theorem intF_one : intF 1 = ONE := by unfold intF; rw [Nat.one_mul, ← val_one, rn_val double dF ONE (by rw [d_inf]; decide)]
theorem intF_le (n : Nat) : intF n ≤ double.infRung := rn_le_inf _ _ _
theorem val_pow63 : fval double (4890909195324358656) = 2 ^ (lph + 1 + 63) := by
  have := val_pow (lph + 12)
  rw [show (lph + 12) * double.binade + double.binade = 4890909195324358656 by rw [d_bin]; rfl, show 52 + (lph + 12) = lph + 1 + 63 from rfl] at this
  exact this
theorem intF_lt (n : Nat) (h : n ≤ 9223372036854775808) : intF n < double.infRung := by
  have : intF n ≤ 4890909195324358656 := by
    apply rn_le double dF (by rw [d_inf]; decide)
    rw [val_pow63, Nat.pow_zero, Nat.mul_one, Nat.pow_add 2 (lph + 1) 63, Nat.mul_comm]
    exact Nat.mul_le_mul_left _ (Nat.le_trans h (by decide))
  rw [d_inf]
  omega
/-- One and what counts of a weight is finite. -/
theorem addR_one_lt (c : Nat) (hc : c < double.infRung) : addR ONE c < double.infRung := by
  have hm := max_inf
  have h1 : addR ONE c ≤ addR ONE MAXR := addR_mono (Nat.le_refl _) (by omega)
  rcases Nat.lt_or_ge (addR ONE MAXR) double.infRung with h | h
  · omega
  · exfalso
    rw [← hm] at h
    have h2 := (rn_ge double dF _ _ MAXR (by omega)).1 h
    rw [val_one, Nat.pow_zero, Nat.mul_one] at h2
    have e1 : fval double MAXR = (2 * double.binade - 1) * 2 ^ (lph + 972) := by
      have := fval_form double (lph + 972) (2 * double.binade - 1) (.inr (by rw [d_bin]; decide))
      rw [show (lph + 972) * double.binade + (2 * double.binade - 1) = MAXR by rw [d_bin]; rfl] at this
      exact this
    have e2 : fval double (MAXR + 1) = (2 * double.binade) * 2 ^ (lph + 972) := by
      have := fval_form double (lph + 972) (2 * double.binade) (.inr (by rw [d_bin]; decide))
      rw [show (lph + 972) * double.binade + 2 * double.binade = MAXR + 1 by rw [d_bin]; rfl] at this
      exact this
    have e3 : (2 * double.binade) * 2 ^ (lph + 972) = (2 * double.binade - 1) * 2 ^ (lph + 972) + 2 ^ (lph + 972) := by
      rw [← Nat.succ_mul, Nat.succ_eq_add_one, show 2 * double.binade - 1 + 1 = 2 * double.binade by rw [d_bin]]
    have e4 : 2 ^ (lph + 1) * 2 < 2 ^ (lph + 972) := by
      rw [← Nat.pow_succ]
      exact Nat.pow_lt_pow_right (by decide) (by omega)
    rw [e2, e3, e1] at h2
    rcases h2 with h2 | ⟨h2, _⟩ <;> omega

/-- Halving. -/
theorem halfR_le (r : Nat) (hr : r ≤ double.infRung) : halfR r ≤ r := rn_le double dF hr (by rw [Nat.pow_one]; omega)
theorem halfR_zero : halfR 0 = 0 := by unfold halfR; rw [fval_zero, rn_zero]
theorem halfR_big (r : Nat) (hr : r < double.infRung) (h : 2 * double.binade ≤ r) : halfR r + double.binade = r := by
  obtain ⟨e, k, rfl, h1, h2⟩ := rung_form double r
  have he : 1 ≤ e := by
    rcases Nat.eq_zero_or_pos e with h' | h'
    · subst h'; omega
    · exact h'
  obtain ⟨e', rfl⟩ : ∃ e', e = e' + 1 := ⟨e - 1, by omega⟩
  have hk : double.binade ≤ k := by omega
  have hsm : (e' + 1) * double.binade = e' * double.binade + double.binade := by rw [Nat.add_mul, Nat.one_mul]
  have hv : fval double ((e' + 1) * double.binade + k) * 2 ^ 0 = fval double (e' * double.binade + k) * 2 ^ 1 := by
    rw [fval_form double (e' + 1) k (.inr ⟨hk, by omega⟩), fval_form double e' k (.inr ⟨hk, by omega⟩), Nat.pow_succ, Nat.pow_zero, Nat.mul_one, Nat.pow_one, Nat.mul_assoc]
  have : halfR ((e' + 1) * double.binade + k) = e' * double.binade + k := by
    unfold halfR
    rw [rn_eq double dF hv, rn_val double dF _ (by omega)]
  omega
theorem val_small (r : Nat) (h : r ≤ 2 * double.binade) : fval double r = r := by
  have := fval_form double 0 r (.inl ⟨rfl, h⟩)
  rwa [Nat.zero_mul, Nat.zero_add, Nat.pow_zero, Nat.mul_one] at this
theorem halfR_small (r : Nat) (h : r < 2 * double.binade) : halfR r ≤ (r + 1) / 2 := by
  have hi : (r + 1) / 2 ≤ double.infRung := by rw [d_bin] at h; rw [d_inf]; omega
  apply rn_le double dF hi
  rw [val_small r (by omega), val_small ((r + 1) / 2) (by omega), Nat.pow_one]
  omega
theorem halfR_one : halfR 1 = 0 := by
  rcases Nat.eq_zero_or_pos (halfR 1) with h | h
  · exact h
  · exfalso
    have h2 := (rn_ge double dF _ _ 0 (by rw [d_inf]; decide)).1 h
    rw [fval_zero, val_small 1 (by rw [d_bin]; decide)] at h2
    rcases h2 with h2 | ⟨_, h2⟩ <;> omega
def halfN : Nat → Nat → Nat
  | 0, r => r
  | n + 1, r => halfN n (halfR r)
theorem halfN_nil (n : Nat) : halfN n 0 = 0 := by
  induction n with
  | zero => rfl
  | succ n ih => rw [halfN, halfR_zero, ih]
theorem halfN_small (j : Nat) (hj : j ≤ 53) : ∀ (n r : Nat), r ≤ 2 ^ j → j < n → r < 2 * double.binade → halfN n r = 0 := by
  induction j with
  | zero =>
    intro n r h1 h2 h3
    obtain ⟨m, rfl⟩ : ∃ m, n = m + 1 := ⟨n - 1, by omega⟩
    rw [halfN]
    have : r = 0 ∨ r = 1 := by rw [Nat.pow_zero] at h1; omega
    rcases this with rfl | rfl
    · rw [halfR_zero, halfN_nil]
    · rw [halfR_one, halfN_nil]
  | succ j ih =>
    intro n r h1 h2 h3
    obtain ⟨m, rfl⟩ : ∃ m, n = m + 1 := ⟨n - 1, by omega⟩
    rw [halfN]
    have hs := halfR_small r h3
    rw [Nat.pow_succ] at h1
    exact ih (by omega) m _ (by omega) (by omega) (by omega)
theorem halfN_all (t : Nat) : ∀ (n r : Nat), r < (t + 2) * double.binade → r < double.infRung → t + 53 < n → halfN n r = 0 := by
  have hB : 2 * double.binade = 2 ^ 53 := by rw [d_bin]
  induction t with
  | zero =>
    intro n r h1 _ h2
    exact halfN_small 53 (Nat.le_refl _) n r (by omega) (by omega) (by omega)
  | succ t ih =>
    intro n r h1 hi h2
    by_cases h : r < 2 * double.binade
    · exact halfN_small 53 (Nat.le_refl _) n r (by omega) (by omega) h
    · obtain ⟨m, rfl⟩ : ∃ m, n = m + 1 := ⟨n - 1, by omega⟩
      rw [halfN]
      have hb := halfR_big r hi (by omega)
      have e : (t + 1 + 2) * double.binade = (t + 2) * double.binade + double.binade := by rw [show t + 1 + 2 = t + 2 + 1 by omega, Nat.succ_mul]
      exact ih m _ (by omega) (by omega) (by omega)
/-- Whatever was there, halved 2200 times nothing is left. -/
theorem halfN_2200 (r : Nat) (hr : r < double.infRung) : halfN 2200 r = 0 := by
  refine halfN_all 2045 2200 r ?_ hr (by decide)
  rw [d_bin]
  rw [d_inf] at hr
  omega
/-- What a weight decays to. -/
def decayT (old : Nat) (n : Int) : Nat := cleanT (addR (halfR (cleanT old)) (intF n.toNat))
theorem decayT_zero (x : Nat) (hx : x < double.infRung) : decayT x 0 = halfR x := by
  unfold decayT
  have h := halfR_le x (by omega)
  rw [cleanT_fix x hx, Int.toNat_zero, intF_zero, addR_zero _ (by omega), cleanT_fix _ (by omega)]
/-- What a load costs. -/
def costT (load : Int) (w : Nat) : Nat := if load < 0 then 0 else mulR (intF load.toNat) (addR ONE (cleanT w))
theorem costT_le (load : Int) (w : Nat) : costT load w ≤ double.infRung := by unfold costT; split; exact Nat.zero_le _; exact mulR_le _ _
theorem costT_load {load more : Int} (w : Nat) (h : load ≤ more) : costT load w ≤ costT more w := by
  unfold costT
  by_cases h1 : load < 0
  · rw [if_pos h1]; exact Nat.zero_le _
  · rw [if_neg h1, if_neg (by omega)]
    exact mulR_mono (intF_mono (by omega)) (Nat.le_refl _)
theorem costT_weight (load : Int) {w v : Nat} (h : cleanT w ≤ cleanT v) : costT load w ≤ costT load v := by
  unfold costT
  by_cases h1 : load < 0
  · rw [if_pos h1]; exact Nat.zero_le _
  · rw [if_neg h1, if_neg h1]
    exact mulR_mono (Nat.le_refl _) (addR_mono (Nat.le_refl _) h)
/-- The total of some weights. -/
def totT (l : List Nat) : Nat := l.foldl (fun t x => cleanT (addR t (cleanT x))) 0
theorem totT_snoc (l : List Nat) (x : Nat) : totT (l ++ [x]) = cleanT (addR (totT l) (cleanT x)) := by unfold totT; rw [List.foldl_append]; rfl
theorem totT_lt (l : List Nat) : totT l < double.infRung := by
  rcases List.eq_nil_or_concat l with rfl | ⟨L, x, rfl⟩
  · show 0 < _; rw [d_inf]; decide
  · rw [List.concat_eq_append, totT_snoc]; exact cleanT_lt _
theorem tot_step (t c : Nat) (ht : t < double.infRung) (hc : c < double.infRung) : t ≤ cleanT (addR t c) ∧ c ≤ cleanT (addR t c) := by
  have hm := max_inf
  rw [cleanT_rung _ (addR_le t c)]
  have h1 := addR_left t c (by omega)
  have h2 := addR_right t c (by omega)
  omega
/-- No weight counts more than the total. -/
theorem totT_ge (l : List Nat) (x : Nat) (h : x ∈ l) : cleanT x ≤ totT l := by
  have key : ∀ (n : Nat) (l : List Nat), l.length = n → x ∈ l → cleanT x ≤ totT l := by
    intro n
    induction n with
    | zero => intro l hl hx; rw [List.eq_nil_of_length_eq_zero hl] at hx; simp at hx
    | succ n ih =>
      intro l hl hx
      rcases List.eq_nil_or_concat l with rfl | ⟨L, y, rfl⟩
      · simp at hl
      · rw [List.concat_eq_append] at hl hx ⊢
        rw [totT_snoc]
        have hs := tot_step (totT L) (cleanT y) (totT_lt L) (cleanT_lt y)
        rcases List.mem_append.1 hx with h1 | h1
        · exact Nat.le_trans (ih L (by simpa using hl) h1) hs.1
        · have : x = y := by simpa using h1
          rw [this]; exact hs.2
  exact key _ l rfl h
end Go.Proofs.Ytnppfibojcgkmaa
