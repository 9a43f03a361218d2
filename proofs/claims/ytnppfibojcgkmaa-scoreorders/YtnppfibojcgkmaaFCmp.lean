import Derived.Test.YtnppfibojcgkmaaFOps
namespace Go.Proofs.Ytnppfibojcgkmaa
open Ieee

theorem cmp_congr {a b c d : Int} (h1 : a < b ↔ c < d) (h2 : a = b ↔ c = d) : compare a b = compare c d := by
  show compareOfLessAndEq a b = compareOfLessAndEq c d
  unfold compareOfLessAndEq
  simp only [h1, h2]
theorem cmp_lt {a b : Int} (h : a < b) : compare a b = .lt := by
  show compareOfLessAndEq a b = .lt
  unfold compareOfLessAndEq
  rw [if_pos h]
theorem cmp_gt {a b : Int} (h : b < a) : compare a b = .gt := by
  show compareOfLessAndEq a b = .gt
  unfold compareOfLessAndEq
  rw [if_neg (by omega), if_neg (by omega)]
theorem cmp_eq {a b : Int} (h : a = b) : compare a b = .eq := by
  show compareOfLessAndEq a b = .eq
  unfold compareOfLessAndEq
  rw [if_neg (by omega), if_pos h]
/-- A number with its sign. -/
def sg (neg : Bool) (n : Nat) : Int := if neg then -(n : Int) else n
theorem signed_sg (neg : Bool) (m up : Nat) : signed neg m up = sg neg (m * 2 ^ up) := by unfold signed sg; rw [Nat.shiftLeft_eq]
theorem sg_mul (neg : Bool) (n c : Nat) : sg neg n * (c : Int) = sg neg (n * c) := by
  unfold sg
  cases neg <;> simp [Int.neg_mul]

section
variable (f : Format)
/-- Where a word stands in the order. -/
def plc (x : Nat) : Int := if f.signWeight ≤ x then -((x - f.signWeight : Nat) : Int) else (x : Int)
/-- No number. -/
def isN (x : Nat) : Bool := decide (f.infRung < x % f.signWeight)
theorem word_split (x : Nat) (hx : x < 2 * f.signWeight) : ∃ (neg : Bool) (r : Nat), r < f.signWeight ∧ x % f.signWeight = r ∧ (x / f.signWeight % 2 == 1) = neg ∧ plc f x = sg neg r := by
  unfold plc
  by_cases h : f.signWeight ≤ x
  · obtain ⟨r, rfl⟩ : ∃ r, x = f.signWeight + r := ⟨x - f.signWeight, by omega⟩
    have hr : r < f.signWeight := by omega
    refine ⟨true, r, hr, by rw [Nat.add_mod_left, Nat.mod_eq_of_lt hr], ?_, ?_⟩
    · rw [Nat.add_div_left _ (by omega), Nat.div_eq_of_lt hr]; rfl
    · rw [if_pos h, Nat.add_sub_cancel_left]; rfl
  · refine ⟨false, x, by omega, Nat.mod_eq_of_lt (by omega), ?_, ?_⟩
    · rw [Nat.div_eq_of_lt (by omega)]; rfl
    · rw [if_neg h]; rfl
/-- What a word stands for. -/
theorem read_word (hE : f.binade ≤ f.infRung) (x r : Nat) (neg : Bool) (h1 : x % f.signWeight = r) (h2 : (x / f.signWeight % 2 == 1) = neg) :
    (r < f.infRung ∧ ∃ m i, f.read x = .number neg m i ∧ f.leastPlace ≤ i ∧ m * 2 ^ (i - f.leastPlace).toNat = fval f r) ∨ (r = f.infRung ∧ f.read x = .infinity neg) ∨ (f.infRung < r ∧ ∃ t, f.read x = .nan neg t) := by
  unfold Format.read
  simp only [h1, h2]
  by_cases hB : r < f.binade
  · left
    refine ⟨by omega, r, f.leastPlace, by rw [if_pos hB], Int.le_refl _, ?_⟩
    unfold fval
    rw [if_pos hB]
    simp
  · rw [if_neg hB]
    rcases Nat.lt_trichotomy r f.infRung with hI | hI | hI
    · left
      refine ⟨hI, f.binade + r % f.binade, f.leastPlace + ((r / f.binade - 1 : Nat) : Int), by rw [if_pos hI], by omega, ?_⟩
      unfold fval
      rw [if_neg hB, show (f.leastPlace + ((r / f.binade - 1 : Nat) : Int) - f.leastPlace).toNat = r / f.binade - 1 by omega]
    · right; left
      exact ⟨hI, by rw [if_neg (by omega), if_pos hI]⟩
    · right; right
      exact ⟨hI, r - f.infRung, by rw [if_neg (by omega), if_neg (by omega)]⟩
theorem fval_pos {r : Nat} (h : 0 < r) : 0 < fval f r := by have := fval_lt f h; rw [fval_zero] at this; exact this
theorem sg_lt (s t : Bool) (x y : Nat) : sg s (fval f x) < sg t (fval f y) ↔ sg s x < sg t y := by
  have hx : fval f x = 0 ↔ x = 0 := ⟨fun h => by rcases Nat.eq_zero_or_pos x with h' | h'; exact h'; have := fval_pos f h'; omega, fun h => by rw [h]; exact fval_zero f⟩
  have hy : fval f y = 0 ↔ y = 0 := ⟨fun h => by rcases Nat.eq_zero_or_pos y with h' | h'; exact h'; have := fval_pos f h'; omega, fun h => by rw [h]; exact fval_zero f⟩
  have hxy : fval f x < fval f y ↔ x < y := ⟨fun h => by rcases Nat.lt_or_ge x y with h' | h'; exact h'; have := fval_le f h'; omega, fval_lt f⟩
  have hyx : fval f y < fval f x ↔ y < x := ⟨fun h => by rcases Nat.lt_or_ge y x with h' | h'; exact h'; have := fval_le f h'; omega, fval_lt f⟩
  unfold sg
  cases s <;> cases t <;> simp only [Bool.false_eq_true, if_false, if_true] <;> omega
theorem sg_eq (s t : Bool) (x y : Nat) : sg s (fval f x) = sg t (fval f y) ↔ sg s x = sg t y := by
  have h1 := sg_lt f s t x y
  have h2 := sg_lt f t s y x
  omega
/-- Two words that are numbers stand to each other as their places do. -/
theorem order_word (hE : f.binade ≤ f.infRung) (x y : Nat) (hx : x < 2 * f.signWeight) (hy : y < 2 * f.signWeight) (nx : isN f x = false) (ny : isN f y = false) : f.order x y = some (compare (plc f x) (plc f y)) := by
  obtain ⟨s, r, hr, e1, e2, e3⟩ := word_split f x hx
  obtain ⟨t, q, hq, g1, g2, g3⟩ := word_split f y hy
  unfold isN at nx ny
  rw [e1] at nx
  rw [g1] at ny
  have hr2 : r ≤ f.infRung := by simpa using nx
  have hq2 : q ≤ f.infRung := by simpa using ny
  unfold Format.order
  rw [e3, g3]
  rcases read_word f hE x r s e1 e2 with ⟨h1, m, i, h2, h3, h4⟩ | ⟨h1, h2⟩ | ⟨h1, _⟩
  · rcases read_word f hE y q t g1 g2 with ⟨k1, n, j, k2, k3, k4⟩ | ⟨k1, k2⟩ | ⟨k1, _⟩
    · rw [h2, k2]
      unfold Datum.order
      simp only [signed_sg]
      congr 1
      obtain ⟨base, hb⟩ : ∃ base, base = min i j := ⟨_, rfl⟩
      have hb1 : f.leastPlace ≤ base := by omega
      have hb2 : base ≤ i := by omega
      have hb3 : base ≤ j := by omega
      rw [← hb]
      clear hb
      obtain ⟨c, hc⟩ : ∃ c : Nat, c = 2 ^ (base - f.leastPlace).toNat := ⟨_, rfl⟩
      have hc0 : (0 : Int) < (c : Int) := by rw [hc]; exact Int.natCast_pos.2 (Nat.pow_pos (by decide))
      have v1 : sg s (m * 2 ^ (i - base).toNat) * (c : Int) = sg s (fval f r) := by rw [sg_mul, hc, scale_base _ _ _ _ hb1 hb2, h4]
      have v2 : sg t (n * 2 ^ (j - base).toNat) * (c : Int) = sg t (fval f q) := by rw [sg_mul, hc, scale_base _ _ _ _ hb1 hb3, k4]
      apply cmp_congr
      · rw [← sg_lt f s t r q, ← v1, ← v2]
        exact ⟨fun h => Int.mul_lt_mul_of_pos_right h hc0, fun h => Int.lt_of_mul_lt_mul_right h (Int.le_of_lt hc0)⟩
      · rw [← sg_eq f s t r q, ← v1, ← v2]
        exact ⟨fun h => by rw [h], fun h => Int.eq_of_mul_eq_mul_right (Int.ne_of_gt hc0) h⟩
    · rw [h2, k2]
      unfold Datum.order
      simp only
      congr 1
      unfold sg
      cases t
      · rw [if_neg (by simp), cmp_lt]; cases s <;> simp <;> omega
      · rw [if_pos rfl, cmp_gt]; cases s <;> simp <;> omega
    · omega
  · rcases read_word f hE y q t g1 g2 with ⟨k1, n, j, k2, k3, k4⟩ | ⟨k1, k2⟩ | ⟨k1, _⟩
    · rw [h2, k2]
      unfold Datum.order
      simp only
      congr 1
      unfold sg
      cases s
      · rw [if_neg (by simp), cmp_gt]; cases t <;> simp <;> omega
      · rw [if_pos rfl, cmp_lt]; cases t <;> simp <;> omega
    · rw [h2, k2]
      unfold Datum.order
      simp only
      congr 1
      have hI : 0 < f.infRung := by have := binade_pos f; omega
      subst h1
      subst k1
      unfold sg
      cases s <;> cases t
      · rw [cmp_eq rfl]; rfl
      · rw [if_neg (by simp), if_pos rfl, cmp_gt (by omega)]; rfl
      · rw [if_pos rfl, if_neg (by simp), cmp_lt (by omega)]; rfl
      · rw [cmp_eq rfl]; rfl
    · omega
  · omega
/-- What is no number stands to nothing. -/
theorem order_nan (hE : f.binade ≤ f.infRung) (x y : Nat) (h : isN f x = true ∨ isN f y = true) : f.order x y = none := by
  unfold isN at h
  simp only [decide_eq_true_eq] at h
  unfold Format.order
  rcases h with h | h
  · rcases read_word f hE x _ _ rfl rfl with ⟨h1, _⟩ | ⟨h1, _⟩ | ⟨_, t, h2⟩
    · omega
    · omega
    · rw [h2]; unfold Datum.order; cases f.read y <;> rfl
  · rcases read_word f hE y _ _ rfl rfl with ⟨h1, _⟩ | ⟨h1, _⟩ | ⟨_, t, h2⟩
    · omega
    · omega
    · rw [h2]; unfold Datum.order; cases f.read x <;> rfl
end
end Go.Proofs.Ytnppfibojcgkmaa
