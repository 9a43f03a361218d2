import Derived.Test.YtplnlmkmaapbaaaDoorFront
import Derived.Test.YtplnlmkmaapbaaaDoorMeetHas
namespace Go.Proofs.YtplnlmkmaapbaaaDoor
open Go Go.RowKit

theorem has_fr (L H : List Int) (F k : Nat) (hFk : F + k ≤ 104) : has (frV L F k) (frM F k) H = true ↔ ∀ i, i < k → bt L (F + i) = bt H (F + i) := by
  rw [has_iff]
  constructor
  · intro h i hi
    have h1 := h (F + i) (by omega) (by rw [frM_bt _ _ _ (by omega)]; simp; omega)
    rw [frV_bt _ _ _ _ (by omega), decide_eq_true (by omega), Bool.true_and] at h1
    exact h1
  · intro h i hi hm
    rw [frM_bt _ _ _ hi, decide_eq_true_eq] at hm
    have h1 := h (i - F) (by omega)
    rw [show F + (i - F) = i by omega] at h1
    rw [frV_bt _ _ _ _ hi, decide_eq_true hm, Bool.true_and]
    exact h1

/-- Numbers with the same first k of W bits are the same without the others. -/
theorem top_eq (W a b : Nat) (ha : a < 2 ^ W) (hb : b < 2 ^ W) : ∀ k, k ≤ W → ((∀ i, i < k → (a / 2 ^ (W - 1 - i) % 2 == 1) = (b / 2 ^ (W - 1 - i) % 2 == 1)) ↔ a / 2 ^ (W - k) = b / 2 ^ (W - k))
  | 0, _ => by
    rw [Nat.sub_zero, Nat.div_eq_of_lt ha, Nat.div_eq_of_lt hb]
    simp
  | k + 1, hk => by
    have ih := top_eq W a b ha hb k (by omega)
    have e : W - k = (W - (k + 1)) + 1 := by omega
    have e2 : W - 1 - k = W - (k + 1) := by omega
    rw [e, Nat.pow_succ, ← Nat.div_div_eq_div_mul, ← Nat.div_div_eq_div_mul] at ih
    constructor
    · intro h
      have h1 := ih.1 fun i hi => h i (by omega)
      have h2 := h k (by omega)
      rw [e2, Bool.eq_iff_iff, beq_iff_eq, beq_iff_eq] at h2
      omega
    · intro h i hi
      rcases Nat.lt_or_ge i k with h3 | h3
      · exact ih.2 (by rw [h]) i h3
      · obtain rfl : i = k := by omega
        rw [e2, h]

theorem fh_bit (f : Int) (v : Nat) (h0 : 0 ≤ f) (h1 : f < 5) (i : Nat) (hi : i < 8 * sizeOfF f) : bt (fh f (v : Int)) (8 * atOf f + i) = (v / 2 ^ (8 * sizeOfF f - 1 - i) % 2 == 1) := by
  have hp := place_facts f h0 h1
  have h2 := (withB_bit Z13 Z13_byt (8 * atOf f) (8 * sizeOfF f) v (by omega) (8 * sizeOfF f) (Nat.le_refl _)).2 (8 * atOf f + i) (by omega)
  rw [withB_put Z13 Z13_byt _ _ _ hp.2.2.1, if_pos (by omega), bitB_bt _ _ (by omega), show 8 * atOf f + 8 * sizeOfF f - 1 - (8 * atOf f + i) = 8 * sizeOfF f - 1 - i by omega] at h2
  exact h2

/-- A field's number. -/
def fld (H : List Int) (f : Int) : Nat := (getN H (atOf f) (sizeOfF f)).toNat
theorem fld_eq (H : List Int) (hH : Byt H) (f : Int) : getN H (atOf f) (sizeOfF f) = (fld H f : Int) := by
  have := (getN_bd H hH (atOf f) (sizeOfF f)).1
  unfold fld; omega
theorem fld_lt (H : List Int) (hH : Byt H) (f : Int) : fld H f < 2 ^ (8 * sizeOfF f) := by
  have h := (getN_bd H hH (atOf f) (sizeOfF f)).2
  rw [fld_eq H hH f] at h
  have h2 : ((fld H f : Nat) : Int) < ((256 ^ sizeOfF f : Nat) : Int) := by rw [Int.natCast_pow]; exact h
  rw [Nat.pow_mul, show 2 ^ 8 = 256 from rfl]
  exact Int.ofNat_lt.1 h2
theorem fld_bit (H : List Int) (hH : Byt H) (f : Int) (h0 : 0 ≤ f) (h1 : f < 5) (i : Nat) (hi : i < 8 * sizeOfF f) : bt H (8 * atOf f + i) = (fld H f / 2 ^ (8 * sizeOfF f - 1 - i) % 2 == 1) := by
  have hp := place_facts f h0 h1
  have h := getN_bit H hH (atOf f) (sizeOfF f) i hp.2.2.1 hi
  rw [bitB_bt _ _ (by omega), fld_eq H hH f] at h
  rw [h, Bool.eq_iff_iff, beq_iff_eq, beq_iff_eq]
  have hc : (fld H f : Int) / 2 ^ (8 * sizeOfF f - 1 - i) = ((fld H f / 2 ^ (8 * sizeOfF f - 1 - i) : Nat) : Int) := by simp
  rw [hc]; omega

/-- A cube of a field's first bits has the headers whose field begins so. -/
theorem has_field (H : List Int) (hH : Byt H) (f : Int) (v k : Nat) (h0 : 0 ≤ f) (h1 : f < 5) (hv : v < 2 ^ (8 * sizeOfF f)) (hk : k ≤ 8 * sizeOfF f) :
    has (frV (fh f (v : Int)) (8 * atOf f) k) (frM (8 * atOf f) k) H = decide (v / 2 ^ (8 * sizeOfF f - k) = fld H f / 2 ^ (8 * sizeOfF f - k)) := by
  have hp := place_facts f h0 h1
  rw [Bool.eq_iff_iff, decide_eq_true_eq, has_fr _ _ _ _ (by omega), ← top_eq (8 * sizeOfF f) v (fld H f) hv (fld_lt H hH f) k hk]
  constructor
  · intro h i hi
    rw [← fh_bit f v h0 h1 i (by omega), ← fld_bit H hH f h0 h1 i (by omega)]
    exact h i hi
  · intro h i hi
    rw [fh_bit f v h0 h1 i (by omega), fld_bit H hH f h0 h1 i (by omega)]
    exact h i hi

theorem ofInt32 (x : Int) (h0 : 0 ≤ x) (h1 : x < 4294967296) : (BitVec.ofInt 32 x).toNat = x.toNat := by
  rw [BitVec.toNat_ofInt]; omega
theorem xor32 (x y : Nat) (hx : x < 4294967296) (hy : y < 4294967296) : bits .xor .u32 (x : Int) (y : Int) = ((x ^^^ y : Nat) : Int) := by
  have e : bits .xor .u32 (x : Int) (y : Int) = ((BitVec.ofInt 32 x ^^^ BitVec.ofInt 32 y).toNat : Int) % 4294967296 := by
    unfold bits
    simp only []
    rw [IntKind.wrap_u32]
    rfl
  rw [e, BitVec.toNat_xor, ofInt32 x (by omega) (by omega), ofInt32 y (by omega) (by omega), Int.toNat_natCast, Int.toNat_natCast]
  have := Nat.xor_lt_two_pow (n := 32) (x := x) (y := y) (by omega) (by omega)
  omega
theorem xor_top (x y n : Nat) : ((x ^^^ y) / 2 ^ n = 0) ↔ (x / 2 ^ n = y / 2 ^ n) := by
  rw [← Nat.shiftRight_eq_div_pow, ← Nat.shiftRight_eq_div_pow, ← Nat.shiftRight_eq_div_pow, Nat.shiftRight_xor_distrib]
  constructor
  · intro h
    have h2 := congrArg (fun z => z ^^^ (y >>> n)) h
    simpa [Nat.xor_assoc] using h2
  · intro h; rw [h]; exact Nat.xor_self _
end Go.Proofs.YtplnlmkmaapbaaaDoor
