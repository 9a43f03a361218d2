import Derived.Test.YtbhnjhiecoapbaaJ7
namespace Go.Proofs.Ytbhnjhiecoapbaa
open Ieee

section
variable (f : Format)
/-- The rung nearest to N / 2 ^ s units. -/
def rn (N s : Nat) : Nat := f.nearest false N (f.leastPlace - (s : Int))
theorem rn_ge (hF : 1 ≤ f.fractionBits) (N s r : Nat) (hr : r < f.infRung) : r + 1 ≤ rn f N s ↔ (fval f r + fval f (r + 1)) * 2 ^ s < 2 * N ∨ ((fval f r + fval f (r + 1)) * 2 ^ s = 2 * N ∧ r % 2 = 1) := by
  unfold rn
  rw [near_ge f hF N _ r hr, show (f.leastPlace - (f.leastPlace - (s : Int))).toNat = s by omega, show (f.leastPlace - (s : Int) - f.leastPlace).toNat = 0 by omega, Nat.pow_zero, Nat.mul_one]
theorem near_le (mag : Nat) (place : Int) : f.nearest false mag place ≤ f.infRung := by
  unfold Format.nearest
  split
  · exact Nat.zero_le _
  · simp only [Format.word, Bool.false_eq_true, if_false]
    exact Nat.min_le_right _ _
theorem rn_le_inf (N s : Nat) : rn f N s ≤ f.infRung := near_le f _ _
theorem rn_mono (hF : 1 ≤ f.fractionBits) {N s N' s' : Nat} (h : N * 2 ^ s' ≤ N' * 2 ^ s) : rn f N s ≤ rn f N' s' := by
  rcases Nat.eq_zero_or_pos (rn f N s) with h0 | h0
  · omega
  obtain ⟨r, hr⟩ : ∃ r, rn f N s = r + 1 := ⟨rn f N s - 1, by omega⟩
  have hlt : r < f.infRung := by have := rn_le_inf f N s; omega
  rw [hr, rn_ge f hF N' s' r hlt]
  have h1 := (rn_ge f hF N s r hlt).1 (by omega)
  obtain ⟨c, hc⟩ : ∃ c, c = fval f r + fval f (r + 1) := ⟨_, rfl⟩
  rw [← hc] at h1 ⊢
  have e1 : c * 2 ^ s' * 2 ^ s = c * 2 ^ s * 2 ^ s' := by rw [Nat.mul_assoc, Nat.mul_assoc, Nat.mul_comm (2 ^ s')]
  have e2 : 2 * N' * 2 ^ s = 2 * (N' * 2 ^ s) := Nat.mul_assoc _ _ _
  have e3 : 2 * N * 2 ^ s' = 2 * (N * 2 ^ s') := Nat.mul_assoc _ _ _
  rw [← pow_cancel (a := c * 2 ^ s') (c := s), ← pow_cancel_eq (a := c * 2 ^ s') (c := s), e1, e2]
  rcases h1 with h1 | ⟨h1, h2⟩
  · left
    have := (pow_cancel (c := s')).2 h1
    omega
  · have := (pow_cancel_eq (c := s')).2 h1
    rcases Nat.lt_or_eq_of_le h with h3 | h3
    · left; omega
    · right; exact ⟨by omega, h2⟩
theorem rn_eq (hF : 1 ≤ f.fractionBits) {N s N' s' : Nat} (h : N * 2 ^ s' = N' * 2 ^ s) : rn f N s = rn f N' s' :=
  Nat.le_antisymm (rn_mono f hF (Nat.le_of_eq h)) (rn_mono f hF (Nat.le_of_eq h.symm))
theorem near_rn (hF : 1 ≤ f.fractionBits) (mag : Nat) (place : Int) : f.nearest false mag place = rn f (mag * 2 ^ (place - f.leastPlace).toNat) (f.leastPlace - place).toNat := by
  have h : ∀ r, r < f.infRung → (r + 1 ≤ f.nearest false mag place ↔ r + 1 ≤ rn f (mag * 2 ^ (place - f.leastPlace).toNat) (f.leastPlace - place).toNat) := fun r hr => by
    rw [near_ge f hF mag place r hr, rn_ge f hF _ _ r hr]
  have h1 := near_le f mag place
  have h2 := rn_le_inf f (mag * 2 ^ (place - f.leastPlace).toNat) (f.leastPlace - place).toNat
  obtain ⟨a, ha⟩ : ∃ a, a = f.nearest false mag place := ⟨_, rfl⟩
  obtain ⟨b, hb⟩ : ∃ b, b = rn f (mag * 2 ^ (place - f.leastPlace).toNat) (f.leastPlace - place).toNat := ⟨_, rfl⟩
  rw [← ha, ← hb] at h ⊢
  rw [← ha] at h1
  rw [← hb] at h2
  rcases Nat.lt_trichotomy a b with hc | hc | hc
  · have := (h a (by omega)).2 hc; omega
  · exact hc
  · have := (h b (by omega)).1 hc; omega
theorem rn_val (hF : 1 ≤ f.fractionBits) (r : Nat) (hr : r ≤ f.infRung) : rn f (fval f r) 0 = r := by
  apply Nat.le_antisymm
  · rcases Nat.lt_or_eq_of_le hr with h | h
    · rcases Nat.lt_or_ge r (rn f (fval f r) 0) with h1 | h1
      · exfalso
        have := (rn_ge f hF (fval f r) 0 r h).1 h1
        have h2 := fval_succ f r
        rw [Nat.pow_zero, Nat.mul_one] at this
        rcases this with h3 | ⟨h3, _⟩ <;> omega
      · exact h1
    · rw [h]; exact rn_le_inf f _ _
  · rcases Nat.eq_zero_or_pos r with h | h
    · omega
    · obtain ⟨q, rfl⟩ : ∃ q, r = q + 1 := ⟨r - 1, by omega⟩
      refine (rn_ge f hF _ 0 q (by omega)).2 (.inl ?_)
      have h2 := fval_succ f q
      rw [Nat.pow_zero, Nat.mul_one]
      omega
theorem rn_zero (s : Nat) : rn f 0 s = 0 := by unfold rn; rw [near_zero]; rfl
theorem rn_le (hF : 1 ≤ f.fractionBits) {N s r : Nat} (hr : r ≤ f.infRung) (h : N ≤ fval f r * 2 ^ s) : rn f N s ≤ r := by
  have := rn_mono f hF (N := N) (s := s) (N' := fval f r) (s' := 0) (by simpa using h)
  rwa [rn_val f hF r hr] at this
theorem le_rn (hF : 1 ≤ f.fractionBits) {N s r : Nat} (hr : r ≤ f.infRung) (h : fval f r * 2 ^ s ≤ N) : r ≤ rn f N s := by
  have := rn_mono f hF (N := fval f r) (s := 0) (N' := N) (s' := s) (by simpa using h)
  rwa [rn_val f hF r hr] at this

/-- What a rung below infinity stands for. -/
theorem read_rung (r : Nat) (hr : r < f.infRung) : ∃ m i, f.read r = .number false m i ∧ f.leastPlace ≤ i ∧ m * 2 ^ (i - f.leastPlace).toNat = fval f r ∧ (m = 0 ↔ r = 0) := by
  have hsw := f.infRung_lt
  have h1 : r / f.signWeight = 0 := Nat.div_eq_of_lt (by omega)
  have h2 : r % f.signWeight = r := Nat.mod_eq_of_lt (by omega)
  have hp := binade_pos f
  unfold Format.read fval
  rw [h1, h2]
  by_cases h : r < f.binade
  · simp only [h, if_true]
    refine ⟨r, f.leastPlace, rfl, Int.le_refl _, by simp, Iff.rfl⟩
  · simp only [h, if_false, hr, if_true]
    refine ⟨f.binade + r % f.binade, _, rfl, by omega, ?_, by omega⟩
    rw [show (f.leastPlace + ((r / f.binade - 1 : Nat) : Int) - f.leastPlace).toNat = r / f.binade - 1 by omega]
theorem fval_inj {r r' : Nat} (h : fval f r = fval f r') : r = r' := by
  rcases Nat.lt_trichotomy r r' with h1 | h1 | h1
  · have := fval_lt f h1; omega
  · exact h1
  · have := fval_lt f h1; omega
theorem signed_false (m up : Nat) : signed false m up = ((m * 2 ^ up : Nat) : Int) := by unfold signed; simp [Nat.shiftLeft_eq]
theorem scale_base (LP i base : Int) (m : Nat) (h1 : LP ≤ base) (h2 : base ≤ i) : m * 2 ^ (i - base).toNat * 2 ^ (base - LP).toNat = m * 2 ^ (i - LP).toNat := by
  rw [Nat.mul_assoc, ← Nat.pow_add, show (i - base).toNat + (base - LP).toNat = (i - LP).toNat by omega]
/-- A sum of two rungs. -/
theorem add_rung (hF : 1 ≤ f.fractionBits) (x y : Nat) (hx : x < f.infRung) (hy : y < f.infRung) : f.add x y = some (rn f (fval f x + fval f y) 0) := by
  obtain ⟨m, i, e1, h1, h2, _⟩ := read_rung f x hx
  obtain ⟨n, j, e2, h3, h4, _⟩ := read_rung f y hy
  unfold Format.add
  rw [e1, e2]
  show (Datum.sum (.number false m i) (.number false n j)).map f.write = _
  unfold Datum.sum
  simp only [signed_false, Option.map_some]
  obtain ⟨base, hb⟩ : ∃ base, base = min i j := ⟨_, rfl⟩
  have hb1 : f.leastPlace ≤ base := by omega
  have hb2 : base ≤ i := by omega
  have hb3 : base ≤ j := by omega
  rw [← hb]
  clear hb
  have ht : (((m * 2 ^ (i - base).toNat : Nat) : Int) + ((n * 2 ^ (j - base).toNat : Nat) : Int)) = ((m * 2 ^ (i - base).toNat + n * 2 ^ (j - base).toNat : Nat) : Int) := by omega
  rw [ht]
  obtain ⟨T, hT⟩ : ∃ T, T = m * 2 ^ (i - base).toNat + n * 2 ^ (j - base).toNat := ⟨_, rfl⟩
  rw [← hT]
  have hs : (if ((T : Nat) : Int) = 0 then (false && false) else decide (((T : Nat) : Int) < 0)) = false := by
    split
    · rfl
    · simp
  rw [hs]
  unfold Format.write
  congr 1
  show f.nearest false ((T : Int).natAbs) base = _
  rw [Int.natAbs_natCast, near_rn f hF]
  apply rn_eq f hF
  rw [show (f.leastPlace - base).toNat = 0 by omega, hT, Nat.pow_zero, Nat.mul_one, Nat.mul_one, Nat.add_mul, scale_base _ _ _ _ hb1 hb2, scale_base _ _ _ _ hb1 hb3, h2, h4]
/-- A product of two rungs. -/
theorem mul_rung (hF : 1 ≤ f.fractionBits) (hLP : f.leastPlace ≤ 0) (x y : Nat) (hx : x < f.infRung) (hy : y < f.infRung) : f.mul x y = some (rn f (fval f x * fval f y) (-f.leastPlace).toNat) := by
  obtain ⟨m, i, e1, h1, h2, _⟩ := read_rung f x hx
  obtain ⟨n, j, e2, h3, h4, _⟩ := read_rung f y hy
  unfold Format.mul
  rw [e1, e2]
  show (Datum.product (.number false m i) (.number false n j)).map f.write = _
  unfold Datum.product
  simp only [Option.map_some, Bool.xor_false]
  unfold Format.write
  congr 1
  show f.nearest false (m * n) (i + j) = _
  rw [near_rn f hF]
  apply rn_eq f hF
  rw [← h2, ← h4]
  have e : ∀ a b c d : Nat, m * n * 2 ^ a * 2 ^ b = m * 2 ^ c * (n * 2 ^ d) * 2 ^ (a + b - c - d) ∨ c + d > a + b := fun a b c d => by
    by_cases h : c + d ≤ a + b
    · left
      rw [Nat.mul_assoc, ← Nat.pow_add, Nat.mul_assoc m, Nat.mul_assoc m, Nat.mul_assoc m]
      congr 1
      rw [Nat.mul_comm (2 ^ c), Nat.mul_assoc n, ← Nat.pow_add, Nat.mul_assoc n, ← Nat.pow_add]
      congr 2
      omega
    · right; omega
  rcases e (i + j - f.leastPlace).toNat (-f.leastPlace).toNat (i - f.leastPlace).toNat (j - f.leastPlace).toNat with h | h
  · rw [h]
    congr 2
    omega
  · omega
end
end Go.Proofs.Ytbhnjhiecoapbaa
namespace Go.Proofs.Ytbhnjhiecoapbaa
open Ieee

theorem cmp_congr {a b c d : Int} (h1 : a < b ↔ c < d) (h2 : a = b ↔ c = d) : compare a b = compare c d := by
  show compareOfLessAndEq a b = compareOfLessAndEq c d
  unfold compareOfLessAndEq
  simp only [h1, h2]
theorem cmp_lt {a b : Int} (h : a < b) : compare a b = .lt := by
  show compareOfLessAndEq a b = .lt
  unfold compareOfLessAndEq
  rw [if_pos h]
theorem cmp_gt {a b : Int} (h : b < a) : compare a b = .gt := by
  show compareOfLessAndEq a b = .gt
  unfold compareOfLessAndEq
  rw [if_neg (by omega), if_neg (by omega)]
theorem cmp_eq {a b : Int} (h : a = b) : compare a b = .eq := by
  show compareOfLessAndEq a b = .eq
  unfold compareOfLessAndEq
  rw [if_neg (by omega), if_pos h]
/-- A number with its sign. -/
def sg (neg : Bool) (n : Nat) : Int := if neg then -(n : Int) else n
theorem signed_sg (neg : Bool) (m up : Nat) : signed neg m up = sg neg (m * 2 ^ up) := by unfold signed sg; rw [Nat.shiftLeft_eq]
theorem sg_mul (neg : Bool) (n c : Nat) : sg neg n * (c : Int) = sg neg (n * c) := by
  unfold sg
  cases neg <;> simp [Int.neg_mul]

section
variable (f : Format)
/-- Where a word stands in the order. -/
def plc (x : Nat) : Int := if f.signWeight ≤ x then -((x - f.signWeight : Nat) : Int) else (x : Int)
/-- No number. -/
def isN (x : Nat) : Bool := decide (f.infRung < x % f.signWeight)
theorem word_split (x : Nat) (hx : x < 2 * f.signWeight) : ∃ (neg : Bool) (r : Nat), r < f.signWeight ∧ x % f.signWeight = r ∧ (x / f.signWeight % 2 == 1) = neg ∧ plc f x = sg neg r := by
  unfold plc
  by_cases h : f.signWeight ≤ x
  · obtain ⟨r, rfl⟩ : ∃ r, x = f.signWeight + r := ⟨x - f.signWeight, by omega⟩
    have hr : r < f.signWeight := by omega
    refine ⟨true, r, hr, by rw [Nat.add_mod_left, Nat.mod_eq_of_lt hr], ?_, ?_⟩
    · rw [Nat.add_div_left _ (by omega), Nat.div_eq_of_lt hr]; rfl
    · rw [if_pos h, Nat.add_sub_cancel_left]; rfl
  · refine ⟨false, x, by omega, Nat.mod_eq_of_lt (by omega), ?_, ?_⟩
    · rw [Nat.div_eq_of_lt (by omega)]; rfl
    · rw [if_neg h]; rfl
/-- What a word stands for. -/
theorem read_word (hE : f.binade ≤ f.infRung) (x r : Nat) (neg : Bool) (h1 : x % f.signWeight = r) (h2 : (x / f.signWeight % 2 == 1) = neg) :
    (r < f.infRung ∧ ∃ m i, f.read x = .number neg m i ∧ f.leastPlace ≤ i ∧ m * 2 ^ (i - f.leastPlace).toNat = fval f r) ∨ (r = f.infRung ∧ f.read x = .infinity neg) ∨ (f.infRung < r ∧ ∃ t, f.read x = .nan neg t) := by
  unfold Format.read
  simp only [h1, h2]
  by_cases hB : r < f.binade
  · left
    refine ⟨by omega, r, f.leastPlace, by rw [if_pos hB], Int.le_refl _, ?_⟩
    unfold fval
    rw [if_pos hB]
    simp
  · rw [if_neg hB]
    rcases Nat.lt_trichotomy r f.infRung with hI | hI | hI
    · left
      refine ⟨hI, f.binade + r % f.binade, f.leastPlace + ((r / f.binade - 1 : Nat) : Int), by rw [if_pos hI], by omega, ?_⟩
      unfold fval
      rw [if_neg hB, show (f.leastPlace + ((r / f.binade - 1 : Nat) : Int) - f.leastPlace).toNat = r / f.binade - 1 by omega]
    · right; left
      exact ⟨hI, by rw [if_neg (by omega), if_pos hI]⟩
    · right; right
      exact ⟨hI, r - f.infRung, by rw [if_neg (by omega), if_neg (by omega)]⟩
theorem fval_pos {r : Nat} (h : 0 < r) : 0 < fval f r := by have := fval_lt f h; rw [fval_zero] at this; exact this
theorem sg_lt (s t : Bool) (x y : Nat) : sg s (fval f x) < sg t (fval f y) ↔ sg s x < sg t y := by
  have hx : fval f x = 0 ↔ x = 0 := ⟨fun h => by rcases Nat.eq_zero_or_pos x with h' | h'; exact h'; have := fval_pos f h'; omega, fun h => by rw [h]; exact fval_zero f⟩
  have hy : fval f y = 0 ↔ y = 0 := ⟨fun h => by rcases Nat.eq_zero_or_pos y with h' | h'; exact h'; have := fval_pos f h'; omega, fun h => by rw [h]; exact fval_zero f⟩
  have hxy : fval f x < fval f y ↔ x < y := ⟨fun h => by rcases Nat.lt_or_ge x y with h' | h'; exact h'; have := fval_le f h'; omega, fval_lt f⟩
  have hyx : fval f y < fval f x ↔ y < x := ⟨fun h => by rcases Nat.lt_or_ge y x with h' | h'; exact h'; have := fval_le f h'; omega, fval_lt f⟩
  unfold sg
  cases s <;> cases t <;> simp only [Bool.false_eq_true, if_false, if_true] <;> omega
theorem sg_eq (s t : Bool) (x y : Nat) : sg s (fval f x) = sg t (fval f y) ↔ sg s x = sg t y := by
  have h1 := sg_lt f s t x y
  have h2 := sg_lt f t s y x
  omega
/-- Two words that are numbers stand to each other as their places do. -/
theorem order_word (hE : f.binade ≤ f.infRung) (x y : Nat) (hx : x < 2 * f.signWeight) (hy : y < 2 * f.signWeight) (nx : isN f x = false) (ny : isN f y = false) : f.order x y = some (compare (plc f x) (plc f y)) := by
  obtain ⟨s, r, hr, e1, e2, e3⟩ := word_split f x hx
  obtain ⟨t, q, hq, g1, g2, g3⟩ := word_split f y hy
  unfold isN at nx ny
  rw [e1] at nx
  rw [g1] at ny
  have hr2 : r ≤ f.infRung := by simpa using nx
  have hq2 : q ≤ f.infRung := by simpa using ny
  unfold Format.order
  rw [e3, g3]
  rcases read_word f hE x r s e1 e2 with ⟨h1, m, i, h2, h3, h4⟩ | ⟨h1, h2⟩ | ⟨h1, _⟩
  · rcases read_word f hE y q t g1 g2 with ⟨k1, n, j, k2, k3, k4⟩ | ⟨k1, k2⟩ | ⟨k1, _⟩
    · rw [h2, k2]
      unfold Datum.order
      simp only [signed_sg]
      congr 1
      obtain ⟨base, hb⟩ : ∃ base, base = min i j := ⟨_, rfl⟩
      have hb1 : f.leastPlace ≤ base := by omega
      have hb2 : base ≤ i := by omega
      have hb3 : base ≤ j := by omega
      rw [← hb]
      clear hb
      obtain ⟨c, hc⟩ : ∃ c : Nat, c = 2 ^ (base - f.leastPlace).toNat := ⟨_, rfl⟩
      have hc0 : (0 : Int) < (c : Int) := by rw [hc]; exact Int.natCast_pos.2 (Nat.pow_pos (by decide))
      have v1 : sg s (m * 2 ^ (i - base).toNat) * (c : Int) = sg s (fval f r) := by rw [sg_mul, hc, scale_base _ _ _ _ hb1 hb2, h4]
      have v2 : sg t (n * 2 ^ (j - base).toNat) * (c : Int) = sg t (fval f q) := by rw [sg_mul, hc, scale_base _ _ _ _ hb1 hb3, k4]
      apply cmp_congr
      · rw [← sg_lt f s t r q, ← v1, ← v2]
        exact ⟨fun h => Int.mul_lt_mul_of_pos_right h hc0, fun h => Int.lt_of_mul_lt_mul_right h (Int.le_of_lt hc0)⟩
      · rw [← sg_eq f s t r q, ← v1, ← v2]
        exact ⟨fun h => by rw [h], fun h => Int.eq_of_mul_eq_mul_right (Int.ne_of_gt hc0) h⟩
    · rw [h2, k2]
      unfold Datum.order
      simp only
      congr 1
      unfold sg
      cases t
      · rw [if_neg (by simp), cmp_lt]; cases s <;> simp <;> omega
      · rw [if_pos rfl, cmp_gt]; cases s <;> simp <;> omega
    · omega
  · rcases read_word f hE y q t g1 g2 with ⟨k1, n, j, k2, k3, k4⟩ | ⟨k1, k2⟩ | ⟨k1, _⟩
    · rw [h2, k2]
      unfold Datum.order
      simp only
      congr 1
      unfold sg
      cases s
      · rw [if_neg (by simp), cmp_gt]; cases t <;> simp <;> omega
      · rw [if_pos rfl, cmp_lt]; cases t <;> simp <;> omega
    · rw [h2, k2]
      unfold Datum.order
      simp only
      congr 1
      have hI : 0 < f.infRung := by have := binade_pos f; omega
      subst h1
      subst k1
      unfold sg
      cases s <;> cases t
      · rw [cmp_eq rfl]; rfl
      · rw [if_neg (by simp), if_pos rfl, cmp_gt (by omega)]; rfl
      · rw [if_pos rfl, if_neg (by simp), cmp_lt (by omega)]; rfl
      · rw [cmp_eq rfl]; rfl
    · omega
  · omega
/-- What is no number stands to nothing. -/
theorem order_nan (hE : f.binade ≤ f.infRung) (x y : Nat) (h : isN f x = true ∨ isN f y = true) : f.order x y = none := by
  unfold isN at h
  simp only [decide_eq_true_eq] at h
  unfold Format.order
  rcases h with h | h
  · rcases read_word f hE x _ _ rfl rfl with ⟨h1, _⟩ | ⟨h1, _⟩ | ⟨_, t, h2⟩
    · omega
    · omega
    · rw [h2]; unfold Datum.order; cases f.read y <;> rfl
  · rcases read_word f hE y _ _ rfl rfl with ⟨h1, _⟩ | ⟨h1, _⟩ | ⟨_, t, h2⟩
    · omega
    · omega
    · rw [h2]; unfold Datum.order; cases f.read x <;> rfl
end
end Go.Proofs.Ytbhnjhiecoapbaa
namespace Go.Proofs.Ytbhnjhiecoapbaa
open Ieee

theorem dF : 1 ≤ double.fractionBits := by decide
theorem d_bin : double.binade = 4503599627370496 := by decide
theorem d_inf : double.infRung = 9218868437227405312 := by decide
theorem d_sw : double.signWeight = 9223372036854775808 := by decide
/-- How far below one the least place lies, less one. -/
def lph : Nat := 1073
theorem d_lp : double.leastPlace = -((lph : Int) + 1) := by unfold lph; decide
theorem d_lpn : (-double.leastPlace).toNat = lph + 1 := by rw [d_lp]; omega
theorem d_lp0 : double.leastPlace ≤ 0 := by rw [d_lp]; omega
theorem dE : double.binade ≤ double.infRung := by rw [d_bin, d_inf]; decide
/-- One, a half, two, the greatest finite number. -/
def ONE : Nat := 4607182418800017408
def HALF : Nat := 4602678819172646912
def TWO : Nat := 4611686018427387904
def MAXR : Nat := 9218868437227405311
theorem val_pow (e : Nat) : fval double (e * double.binade + double.binade) = 2 ^ (52 + e) := by
  rw [fval_form double e double.binade (.inr ⟨Nat.le_refl _, by omega⟩), Nat.pow_add]; rfl
theorem val_one : fval double ONE = 2 ^ (lph + 1) := by
  have := val_pow (lph - 51)
  rw [show (lph - 51) * double.binade + double.binade = ONE by rw [d_bin]; rfl, show 52 + (lph - 51) = lph + 1 from rfl] at this
  exact this
theorem val_half : fval double HALF = 2 ^ lph := by
  have := val_pow (lph - 52)
  rw [show (lph - 52) * double.binade + double.binade = HALF by rw [d_bin]; rfl, show 52 + (lph - 52) = lph from rfl] at this
  exact this
theorem val_two : fval double TWO = 2 ^ (lph + 2) := by
  have := val_pow (lph - 50)
  rw [show (lph - 50) * double.binade + double.binade = TWO by rw [d_bin]; rfl, show 52 + (lph - 50) = lph + 2 from rfl] at this
  exact this
/-- Half of a rung. -/
def halfR (x : Nat) : Nat := rn double (fval double x) 1
theorem mul_half (x : Nat) (hx : x < double.infRung) : double.mul x HALF = some (halfR x) := by
  rw [mul_rung double dF d_lp0 x HALF hx (by rw [d_inf]; decide), val_half, d_lpn]
  unfold halfR
  have e : fval double x * 2 ^ lph * 2 ^ 1 = fval double x * 2 ^ (lph + 1) := by rw [Nat.mul_assoc, ← Nat.pow_add]
  rw [rn_eq double dF e]
theorem mul_comm_rung (x y : Nat) (hx : x < double.infRung) (hy : y < double.infRung) : double.mul x y = double.mul y x := by
  rw [mul_rung double dF d_lp0 x y hx hy, mul_rung double dF d_lp0 y x hy hx, Nat.mul_comm]
/-- A quotient of rungs: what is written. -/
theorem div_rung (x y : Nat) (hx : x < double.infRung) (hy : y < double.infRung) (hy0 : 0 < y) : ∃ m i n j, m * 2 ^ (i - double.leastPlace).toNat = fval double x ∧ n * 2 ^ (j - double.leastPlace).toNat = fval double y ∧ double.leastPlace ≤ i ∧ double.leastPlace ≤ j ∧ n ≠ 0 ∧ (m = 0 ↔ x = 0) ∧
    double.div x y = some (double.nearest false (2 * ((m * 2 ^ (54 + n.log2 - m.log2)) / n) + ((m * 2 ^ (54 + n.log2 - m.log2)) % n != 0).toNat) (i - j - ((54 + n.log2 - m.log2 : Nat) : Int) - 1)) := by
  obtain ⟨m, i, e1, h1, h2, h5⟩ := read_rung double x hx
  obtain ⟨n, j, e2, h3, h4, h6⟩ := read_rung double y hy
  have hn : n ≠ 0 := fun h => by have := h6.1 h; omega
  refine ⟨m, i, n, j, h2, h4, h1, h3, hn, h5, ?_⟩
  unfold Format.div
  rw [e1, e2]
  show (Datum.quotient (double.fractionBits + 2) (.number false m i) (.number false n j)).map double.write = _
  unfold Datum.quotient
  simp only [hn, if_false, Option.map_some, Bool.xor_false, Nat.shiftLeft_eq]
  rfl
theorem le_of_scaled {a b c : Nat} (h : a * 2 ^ c ≤ b * 2 ^ c) : a ≤ b := pow_cancel_le.1 h
/-- A part of something is not above one. -/
theorem div_le_one (x y : Nat) (hxy : x ≤ y) (hy : y < double.infRung) (hy0 : 0 < y) : ∃ R, double.div x y = some R ∧ R ≤ ONE := by
  obtain ⟨m, i, n, j, h1, h2, h3, h4, hn, hm0, hd⟩ := div_rung x y (by omega) hy hy0
  refine ⟨_, hd, ?_⟩
  obtain ⟨more, hmore⟩ : ∃ more, more = 54 + n.log2 - m.log2 := ⟨_, rfl⟩
  rw [← hmore]
  have hle : m * 2 ^ (i - double.leastPlace).toNat ≤ n * 2 ^ (j - double.leastPlace).toNat := by rw [h1, h2]; exact fval_le double hxy
  rw [near_rn double dF]
  apply rn_le double dF (by rw [d_inf]; decide)
  rw [val_one]
  obtain ⟨q, hq⟩ : ∃ q, q = 2 * (m * 2 ^ more / n) + (m * 2 ^ more % n != 0).toNat := ⟨_, rfl⟩
  rw [← hq]
  obtain ⟨a, ha⟩ : ∃ a, a = (i - double.leastPlace).toNat := ⟨_, rfl⟩
  obtain ⟨b, hb⟩ : ∃ b, b = (j - double.leastPlace).toNat := ⟨_, rfl⟩
  rw [← ha, ← hb] at hle
  rw [d_lp] at h3 h4 ha hb ⊢
  rcases Nat.eq_zero_or_pos m with hm | hm
  · subst hm
    rw [Nat.zero_mul, Nat.zero_div, Nat.zero_mod] at hq
    rw [hq]
    simp
  -- the dividend is not above the divisor, scaled
  have hbm : a ≤ b + more := by
    rcases Nat.lt_or_ge (b + more) a with h | h
    · exfalso
      have k1 : m * 2 ^ (more + 1) ≤ n := by
        apply le_of_scaled (c := b)
        refine Nat.le_trans ?_ hle
        rw [Nat.mul_assoc, ← Nat.pow_add]
        exact Nat.mul_le_mul_left _ (Nat.pow_le_pow_right (by decide) (by omega))
      have k2 : n < 2 ^ (n.log2 + 1) := Nat.lt_log2_self
      have k3 : 2 ^ m.log2 ≤ m := Nat.log2_self_le (by omega)
      have k4 : 2 ^ (n.log2 + 1) ≤ 2 ^ m.log2 * 2 ^ (more + 1) := by
        rw [← Nat.pow_add]
        exact Nat.pow_le_pow_right (by decide) (by omega)
      have k5 : 2 ^ m.log2 * 2 ^ (more + 1) ≤ m * 2 ^ (more + 1) := Nat.mul_le_mul_right _ k3
      omega
    · exact h
  obtain ⟨t, ht⟩ : ∃ t, b + more = a + t := ⟨b + more - a, by omega⟩
  have hdv : m * 2 ^ more ≤ n * 2 ^ t := by
    apply le_of_scaled (c := a)
    rw [Nat.mul_assoc, Nat.mul_assoc, ← Nat.pow_add, ← Nat.pow_add, show t + a = b + more by omega, Nat.add_comm more a, Nat.pow_add, ← Nat.mul_assoc, Nat.pow_add, ← Nat.mul_assoc]
    exact Nat.mul_le_mul_right _ hle
  have hq2 : q ≤ 2 * 2 ^ t := by
    rw [hq]
    have hn0 : 0 < n := by omega
    have d1 : m * 2 ^ more / n ≤ 2 ^ t := by
      have := Nat.div_le_div_right (c := n) hdv
      rwa [Nat.mul_comm n, Nat.mul_div_cancel _ hn0] at this
    by_cases hz : m * 2 ^ more % n = 0
    · rw [hz]; simp; omega
    · have d2 : m * 2 ^ more / n < 2 ^ t := by
        rcases Nat.lt_or_eq_of_le d1 with h | h
        · exact h
        · exfalso
          have h7 := Nat.div_add_mod (m * 2 ^ more) n
          rw [h] at h7
          omega
      have : (m * 2 ^ more % n != 0).toNat ≤ 1 := Bool.toNat_le _
      omega
  -- in units of the least place
  rw [show (-((lph : Int) + 1) - (i - j - (more : Int) - 1)) = (t : Int) - lph by omega, show (i - j - (more : Int) - 1 - -((lph : Int) + 1)) = (lph : Int) - t by omega]
  by_cases h8 : t ≤ lph
  · rw [show ((lph : Int) - (t : Int)).toNat = lph - t by omega, show ((t : Int) - lph).toNat = 0 by omega, Nat.pow_zero, Nat.mul_one]
    refine Nat.le_trans (Nat.mul_le_mul_right _ hq2) ?_
    rw [Nat.mul_assoc, ← Nat.pow_add, show t + (lph - t) = lph by omega, Nat.pow_succ, Nat.mul_comm]
    exact Nat.le_refl _
  · rw [show ((lph : Int) - (t : Int)).toNat = 0 by omega, show ((t : Int) - lph).toNat = t - lph by omega, Nat.pow_zero, Nat.mul_one, ← Nat.pow_add, show lph + 1 + (t - lph) = t + 1 by omega, Nat.pow_succ, Nat.mul_comm]
    exact hq2
end Go.Proofs.Ytbhnjhiecoapbaa
namespace Go.Proofs.Ytbhnjhiecoapbaa
open Ieee

/-- What counts of a word. -/
def cleanT (b : Nat) : Nat := if double.signWeight ≤ b ∨ double.infRung < b then 0 else min b MAXR
theorem max_inf : MAXR + 1 = double.infRung := by rw [d_inf]; rfl
theorem cleanT_lt (b : Nat) : cleanT b < double.infRung := by
  have := max_inf
  unfold cleanT
  split <;> omega
theorem cleanT_fix (b : Nat) (h : b < double.infRung) : cleanT b = b := by
  have := max_inf
  have h2 := double.infRung_lt
  unfold cleanT
  rw [if_neg (by omega), Nat.min_eq_left (by omega)]
theorem cleanT_rung (b : Nat) (h : b ≤ double.infRung) : cleanT b = min b MAXR := by
  have h2 := double.infRung_lt
  unfold cleanT
  rw [if_neg (by omega)]
theorem cleanT_clean (b : Nat) : cleanT (cleanT b) = cleanT b := cleanT_fix _ (cleanT_lt b)

/-- A sum, a product. -/
def addR (x y : Nat) : Nat := rn double (fval double x + fval double y) 0
def mulR (x y : Nat) : Nat := rn double (fval double x * fval double y) (lph + 1)
theorem add_eq (x y : Nat) (hx : x < double.infRung) (hy : y < double.infRung) : double.add x y = some (addR x y) := add_rung double dF x y hx hy
theorem mul_eq (x y : Nat) (hx : x < double.infRung) (hy : y < double.infRung) : double.mul x y = some (mulR x y) := by
  rw [mul_rung double dF d_lp0 x y hx hy, d_lpn]; rfl
theorem addR_le (x y : Nat) : addR x y ≤ double.infRung := rn_le_inf _ _ _
theorem mulR_le (x y : Nat) : mulR x y ≤ double.infRung := rn_le_inf _ _ _
theorem addR_comm (x y : Nat) : addR x y = addR y x := by unfold addR; rw [Nat.add_comm]
theorem mulR_comm (x y : Nat) : mulR x y = mulR y x := by unfold mulR; rw [Nat.mul_comm]
theorem addR_left (x y : Nat) (hx : x ≤ double.infRung) : x ≤ addR x y := le_rn double dF hx (by rw [Nat.pow_zero]; omega)
theorem addR_right (x y : Nat) (hy : y ≤ double.infRung) : y ≤ addR x y := le_rn double dF hy (by rw [Nat.pow_zero]; omega)
theorem addR_zero (x : Nat) (hx : x ≤ double.infRung) : addR x 0 = x := by unfold addR; rw [fval_zero, Nat.add_zero, rn_val double dF x hx]
theorem addR_mono {x y x' y' : Nat} (h1 : x ≤ x') (h2 : y ≤ y') : addR x y ≤ addR x' y' := by
  have a := fval_le double h1
  have b := fval_le double h2
  exact rn_mono double dF (by rw [Nat.pow_zero]; omega)
theorem mulR_mono {x y x' y' : Nat} (h1 : x ≤ x') (h2 : y ≤ y') : mulR x y ≤ mulR x' y' := by
  have a := fval_le double h1
  have b := fval_le double h2
  exact rn_mono double dF (Nat.mul_le_mul_right _ (Nat.mul_le_mul a b))
theorem mulR_zero (y : Nat) : mulR 0 y = 0 := by unfold mulR; rw [fval_zero, Nat.zero_mul, rn_zero]
theorem mulR_one (x : Nat) (hx : x ≤ double.infRung) : mulR x ONE = x := by
  unfold mulR
  rw [val_one]
  have e : fval double x * 2 ^ (lph + 1) * 2 ^ 0 = fval double x * 2 ^ (lph + 1) := by rw [Nat.pow_zero, Nat.mul_one]
  rw [rn_eq double dF e, rn_val double dF x hx]

/-- A whole number as a float. -/
def intF (n : Nat) : Nat := rn double (n * 2 ^ (lph + 1)) 0
theorem write_int (n : Nat) : double.write (.number false n 0) = intF n := by
  show double.nearest false n 0 = _
  rw [near_rn double dF, d_lp]
  unfold intF
  rw [show ((0 : Int) - -((lph : Int) + 1)).toNat = lph + 1 by omega, show (-((lph : Int) + 1) - 0).toNat = 0 by omega]
theorem intF_mono {n m : Nat} (h : n ≤ m) : intF n ≤ intF m := rn_mono double dF (by rw [Nat.pow_zero]; have := Nat.mul_le_mul_right (2 ^ (lph + 1)) h; omega)
theorem intF_zero : intF 0 = 0 := by unfold intF; rw [Nat.zero_mul, rn_zero]
theorem intF_one : intF 1 = ONE := by unfold intF; rw [Nat.one_mul, ← val_one, rn_val double dF ONE (by rw [d_inf]; decide)]
theorem intF_le (n : Nat) : intF n ≤ double.infRung := rn_le_inf _ _ _
theorem val_pow63 : fval double (4890909195324358656) = 2 ^ (lph + 1 + 63) := by
  have := val_pow (lph + 12)
  rw [show (lph + 12) * double.binade + double.binade = 4890909195324358656 by rw [d_bin]; rfl, show 52 + (lph + 12) = lph + 1 + 63 from rfl] at this
  exact this
theorem intF_lt (n : Nat) (h : n ≤ 9223372036854775808) : intF n < double.infRung := by
  have : intF n ≤ 4890909195324358656 := by
    apply rn_le double dF (by rw [d_inf]; decide)
    rw [val_pow63, Nat.pow_zero, Nat.mul_one, Nat.pow_add 2 (lph + 1) 63, Nat.mul_comm]
    exact Nat.mul_le_mul_left _ (Nat.le_trans h (by decide))
  rw [d_inf]
  omega
/-- One and what counts of a weight is finite. -/
theorem addR_one_lt (c : Nat) (hc : c < double.infRung) : addR ONE c < double.infRung := by
  have hm := max_inf
  have h1 : addR ONE c ≤ addR ONE MAXR := addR_mono (Nat.le_refl _) (by omega)
  rcases Nat.lt_or_ge (addR ONE MAXR) double.infRung with h | h
  · omega
  · exfalso
    rw [← hm] at h
    have h2 := (rn_ge double dF _ _ MAXR (by omega)).1 h
    rw [val_one, Nat.pow_zero, Nat.mul_one] at h2
    have e1 : fval double MAXR = (2 * double.binade - 1) * 2 ^ (lph + 972) := by
      have := fval_form double (lph + 972) (2 * double.binade - 1) (.inr (by rw [d_bin]; decide))
      rw [show (lph + 972) * double.binade + (2 * double.binade - 1) = MAXR by rw [d_bin]; rfl] at this
      exact this
    have e2 : fval double (MAXR + 1) = (2 * double.binade) * 2 ^ (lph + 972) := by
      have := fval_form double (lph + 972) (2 * double.binade) (.inr (by rw [d_bin]; decide))
      rw [show (lph + 972) * double.binade + 2 * double.binade = MAXR + 1 by rw [d_bin]; rfl] at this
      exact this
    have e3 : (2 * double.binade) * 2 ^ (lph + 972) = (2 * double.binade - 1) * 2 ^ (lph + 972) + 2 ^ (lph + 972) := by
      rw [← Nat.succ_mul, Nat.succ_eq_add_one, show 2 * double.binade - 1 + 1 = 2 * double.binade by rw [d_bin]]
    have e4 : 2 ^ (lph + 1) * 2 < 2 ^ (lph + 972) := by
      rw [← Nat.pow_succ]
      exact Nat.pow_lt_pow_right (by decide) (by omega)
    rw [e2, e3, e1] at h2
    rcases h2 with h2 | ⟨h2, _⟩ <;> omega

/-- Halving. -/
theorem halfR_le (r : Nat) (hr : r ≤ double.infRung) : halfR r ≤ r := rn_le double dF hr (by rw [Nat.pow_one]; omega)
theorem halfR_zero : halfR 0 = 0 := by unfold halfR; rw [fval_zero, rn_zero]
theorem halfR_big (r : Nat) (hr : r < double.infRung) (h : 2 * double.binade ≤ r) : halfR r + double.binade = r := by
  obtain ⟨e, k, rfl, h1, h2⟩ := rung_form double r
  have he : 1 ≤ e := by
    rcases Nat.eq_zero_or_pos e with h' | h'
    · subst h'; omega
    · exact h'
  obtain ⟨e', rfl⟩ : ∃ e', e = e' + 1 := ⟨e - 1, by omega⟩
  have hk : double.binade ≤ k := by omega
  have hsm : (e' + 1) * double.binade = e' * double.binade + double.binade := by rw [Nat.add_mul, Nat.one_mul]
  have hv : fval double ((e' + 1) * double.binade + k) * 2 ^ 0 = fval double (e' * double.binade + k) * 2 ^ 1 := by
    rw [fval_form double (e' + 1) k (.inr ⟨hk, by omega⟩), fval_form double e' k (.inr ⟨hk, by omega⟩), Nat.pow_succ, Nat.pow_zero, Nat.mul_one, Nat.pow_one, Nat.mul_assoc]
  have : halfR ((e' + 1) * double.binade + k) = e' * double.binade + k := by
    unfold halfR
    rw [rn_eq double dF hv, rn_val double dF _ (by omega)]
  omega
theorem val_small (r : Nat) (h : r ≤ 2 * double.binade) : fval double r = r := by
  have := fval_form double 0 r (.inl ⟨rfl, h⟩)
  rwa [Nat.zero_mul, Nat.zero_add, Nat.pow_zero, Nat.mul_one] at this
theorem halfR_small (r : Nat) (h : r < 2 * double.binade) : halfR r ≤ (r + 1) / 2 := by
  have hi : (r + 1) / 2 ≤ double.infRung := by rw [d_bin] at h; rw [d_inf]; omega
  apply rn_le double dF hi
  rw [val_small r (by omega), val_small ((r + 1) / 2) (by omega), Nat.pow_one]
  omega
theorem halfR_one : halfR 1 = 0 := by
  rcases Nat.eq_zero_or_pos (halfR 1) with h | h
  · exact h
  · exfalso
    have h2 := (rn_ge double dF _ _ 0 (by rw [d_inf]; decide)).1 h
    rw [fval_zero, val_small 1 (by rw [d_bin]; decide)] at h2
    rcases h2 with h2 | ⟨_, h2⟩ <;> omega
def halfN : Nat → Nat → Nat
  | 0, r => r
  | n + 1, r => halfN n (halfR r)
theorem halfN_nil (n : Nat) : halfN n 0 = 0 := by
  induction n with
  | zero => rfl
  | succ n ih => rw [halfN, halfR_zero, ih]
theorem halfN_small (j : Nat) (hj : j ≤ 53) : ∀ (n r : Nat), r ≤ 2 ^ j → j < n → r < 2 * double.binade → halfN n r = 0 := by
  induction j with
  | zero =>
    intro n r h1 h2 h3
    obtain ⟨m, rfl⟩ : ∃ m, n = m + 1 := ⟨n - 1, by omega⟩
    rw [halfN]
    have : r = 0 ∨ r = 1 := by rw [Nat.pow_zero] at h1; omega
    rcases this with rfl | rfl
    · rw [halfR_zero, halfN_nil]
    · rw [halfR_one, halfN_nil]
  | succ j ih =>
    intro n r h1 h2 h3
    obtain ⟨m, rfl⟩ : ∃ m, n = m + 1 := ⟨n - 1, by omega⟩
    rw [halfN]
    have hs := halfR_small r h3
    rw [Nat.pow_succ] at h1
    exact ih (by omega) m _ (by omega) (by omega) (by omega)
theorem halfN_all (t : Nat) : ∀ (n r : Nat), r < (t + 2) * double.binade → r < double.infRung → t + 53 < n → halfN n r = 0 := by
  have hB : 2 * double.binade = 2 ^ 53 := by rw [d_bin]
  induction t with
  | zero =>
    intro n r h1 _ h2
    exact halfN_small 53 (Nat.le_refl _) n r (by omega) (by omega) (by omega)
  | succ t ih =>
    intro n r h1 hi h2
    by_cases h : r < 2 * double.binade
    · exact halfN_small 53 (Nat.le_refl _) n r (by omega) (by omega) h
    · obtain ⟨m, rfl⟩ : ∃ m, n = m + 1 := ⟨n - 1, by omega⟩
      rw [halfN]
      have hb := halfR_big r hi (by omega)
      have e : (t + 1 + 2) * double.binade = (t + 2) * double.binade + double.binade := by rw [show t + 1 + 2 = t + 2 + 1 by omega, Nat.succ_mul]
      exact ih m _ (by omega) (by omega) (by omega)
/-- Whatever was there, halved 2200 times nothing is left. -/
theorem halfN_2200 (r : Nat) (hr : r < double.infRung) : halfN 2200 r = 0 := by
  refine halfN_all 2045 2200 r ?_ hr (by decide)
  rw [d_bin]
  rw [d_inf] at hr
  omega
/-- What a weight decays to. -/
def decayT (old : Nat) (n : Int) : Nat := cleanT (addR (halfR (cleanT old)) (intF n.toNat))
theorem decayT_zero (x : Nat) (hx : x < double.infRung) : decayT x 0 = halfR x := by
  unfold decayT
  have h := halfR_le x (by omega)
  rw [cleanT_fix x hx, Int.toNat_zero, intF_zero, addR_zero _ (by omega), cleanT_fix _ (by omega)]
/-- What a load costs. -/
def costT (load : Int) (w : Nat) : Nat := if load < 0 then 0 else mulR (intF load.toNat) (addR ONE (cleanT w))
theorem costT_le (load : Int) (w : Nat) : costT load w ≤ double.infRung := by unfold costT; split; exact Nat.zero_le _; exact mulR_le _ _
theorem costT_load {load more : Int} (w : Nat) (h : load ≤ more) : costT load w ≤ costT more w := by
  unfold costT
  by_cases h1 : load < 0
  · rw [if_pos h1]; exact Nat.zero_le _
  · rw [if_neg h1, if_neg (by omega)]
    exact mulR_mono (intF_mono (by omega)) (Nat.le_refl _)
theorem costT_weight (load : Int) {w v : Nat} (h : cleanT w ≤ cleanT v) : costT load w ≤ costT load v := by
  unfold costT
  by_cases h1 : load < 0
  · rw [if_pos h1]; exact Nat.zero_le _
  · rw [if_neg h1, if_neg h1]
    exact mulR_mono (Nat.le_refl _) (addR_mono (Nat.le_refl _) h)
/-- The total of some weights. -/
def totT (l : List Nat) : Nat := l.foldl (fun t x => cleanT (addR t (cleanT x))) 0
theorem totT_snoc (l : List Nat) (x : Nat) : totT (l ++ [x]) = cleanT (addR (totT l) (cleanT x)) := by unfold totT; rw [List.foldl_append]; rfl
theorem totT_lt (l : List Nat) : totT l < double.infRung := by
  rcases List.eq_nil_or_concat l with rfl | ⟨L, x, rfl⟩
  · show 0 < _; rw [d_inf]; decide
  · rw [List.concat_eq_append, totT_snoc]; exact cleanT_lt _
theorem tot_step (t c : Nat) (ht : t < double.infRung) (hc : c < double.infRung) : t ≤ cleanT (addR t c) ∧ c ≤ cleanT (addR t c) := by
  have hm := max_inf
  rw [cleanT_rung _ (addR_le t c)]
  have h1 := addR_left t c (by omega)
  have h2 := addR_right t c (by omega)
  omega
/-- No weight counts more than the total. -/
theorem totT_ge (l : List Nat) (x : Nat) (h : x ∈ l) : cleanT x ≤ totT l := by
  have key : ∀ (n : Nat) (l : List Nat), l.length = n → x ∈ l → cleanT x ≤ totT l := by
    intro n
    induction n with
    | zero => intro l hl hx; rw [List.eq_nil_of_length_eq_zero hl] at hx; simp at hx
    | succ n ih =>
      intro l hl hx
      rcases List.eq_nil_or_concat l with rfl | ⟨L, y, rfl⟩
      · simp at hl
      · rw [List.concat_eq_append] at hl hx ⊢
        rw [totT_snoc]
        have hs := tot_step (totT L) (cleanT y) (totT_lt L) (cleanT_lt y)
        rcases List.mem_append.1 hx with h1 | h1
        · exact Nat.le_trans (ih L (by simpa using hl) h1) hs.1
        · have : x = y := by simpa using h1
          rw [this]; exact hs.2
  exact key _ l rfl h
end Go.Proofs.Ytbhnjhiecoapbaa
namespace Go.Proofs.Ytbhnjhiecoapbaa
open Ieee

theorem read_rung2 (f : Format) (r : Nat) (hr : r < f.infRung) : ∃ m i, f.read r = .number false m i ∧ f.leastPlace ≤ i ∧ m * 2 ^ (i - f.leastPlace).toNat = fval f r ∧ m < 2 * f.binade := by
  have hsw := f.infRung_lt
  have h1 : r / f.signWeight = 0 := Nat.div_eq_of_lt (by omega)
  have h2 : r % f.signWeight = r := Nat.mod_eq_of_lt (by omega)
  have hp := binade_pos f
  unfold Format.read fval
  rw [h1, h2]
  by_cases h : r < f.binade
  · simp only [h, if_true]
    exact ⟨r, f.leastPlace, rfl, Int.le_refl _, by simp, by omega⟩
  · simp only [h, if_false, hr, if_true]
    refine ⟨f.binade + r % f.binade, _, rfl, by omega, ?_, by have := Nat.mod_lt r hp; omega⟩
    rw [show (f.leastPlace + ((r / f.binade - 1 : Nat) : Int) - f.leastPlace).toNat = r / f.binade - 1 by omega]
theorem read_two : double.read TWO = .number false 4503599627370496 (-51) := by decide
theorem log2_bin : Nat.log2 4503599627370496 = 52 := by decide
/-- Divided by two: half. -/
theorem div_two (x : Nat) (hx : x < double.infRung) : double.div x TWO = some (halfR x) := by
  obtain ⟨m, i, e1, h1, h2, h3⟩ := read_rung2 double x hx
  unfold Format.div
  rw [e1, read_two]
  show (Datum.quotient (double.fractionBits + 2) (.number false m i) (.number false 4503599627370496 (-51))).map double.write = _
  unfold Datum.quotient
  simp only [show (4503599627370496 : Nat) ≠ 0 by decide, if_false, Option.map_some, Bool.xor_false, Nat.shiftLeft_eq, log2_bin]
  have hfb : double.fractionBits + 2 = 54 := rfl
  rw [hfb]
  have hlog : m.log2 ≤ 52 := by
    rcases Nat.eq_zero_or_pos m with h | h
    · subst h; decide
    · have : m.log2 < 53 := (Nat.log2_lt (by omega)).2 (by rw [d_bin] at h3; omega)
      omega
  obtain ⟨t, ht⟩ : ∃ t, 54 + 52 - m.log2 = t + 52 := ⟨54 - m.log2, by omega⟩
  rw [ht]
  have e2 : m * 2 ^ (t + 52) = 4503599627370496 * (m * 2 ^ t) := by
    rw [Nat.pow_add, ← Nat.mul_assoc, Nat.mul_comm]
  rw [e2, Nat.mul_div_cancel_left _ (by decide), Nat.mul_mod_right]
  show some (double.nearest false (2 * (m * 2 ^ t) + 0) (i - -51 - ((t + 52 : Nat) : Int) - 1)) = _
  rw [near_rn double dF]
  unfold halfR
  have key : (2 * (m * 2 ^ t) + 0) * 2 ^ (i - -51 - ((t + 52 : Nat) : Int) - 1 - double.leastPlace).toNat * 2 ^ 1 = fval double x * 2 ^ (double.leastPlace - (i - -51 - ((t + 52 : Nat) : Int) - 1)).toNat := by
    rw [← h2, Nat.add_zero]
    obtain ⟨LP, hLP⟩ : ∃ LP, LP = double.leastPlace := ⟨_, rfl⟩
    rw [← hLP] at h1 ⊢
    rw [show (i - -51 - ((t + 52 : Nat) : Int) - 1 - LP) = (i - LP) - (t : Int) - 2 by omega, show (LP - (i - -51 - ((t + 52 : Nat) : Int) - 1)) = (t : Int) + 2 - (i - LP) by omega]
    obtain ⟨a, ha⟩ : ∃ a : Nat, (i - LP) = a := ⟨(i - LP).toNat, by omega⟩
    rw [ha]
    have e3 : 2 * (m * 2 ^ t) = m * 2 ^ (t + 1) := by rw [Nat.pow_succ, Nat.mul_comm 2, Nat.mul_assoc]
    have hAB : t + 1 + ((a : Int) - (t : Int) - 2).toNat + 1 = ((a : Int)).toNat + ((t : Int) + 2 - (a : Int)).toNat := by omega
    have e4 : m * 2 ^ (t + 1) * 2 ^ ((a : Int) - (t : Int) - 2).toNat * 2 ^ 1 = m * 2 ^ (t + 1 + ((a : Int) - (t : Int) - 2).toNat + 1) := by
      obtain ⟨z, hz⟩ : ∃ z, z = ((a : Int) - (t : Int) - 2).toNat := ⟨_, rfl⟩
      rw [← hz, Nat.pow_add 2 (t + 1 + z) 1, Nat.pow_add 2 (t + 1) z, Nat.mul_assoc m, Nat.mul_assoc m]
    have e5 : m * 2 ^ ((a : Int)).toNat * 2 ^ ((t : Int) + 2 - (a : Int)).toNat = m * 2 ^ (((a : Int)).toNat + ((t : Int) + 2 - (a : Int)).toNat) := by rw [Nat.mul_assoc, ← Nat.pow_add]
    rw [e3, e4, e5, hAB]
  rw [rn_eq double dF key]
end Go.Proofs.Ytbhnjhiecoapbaa
