import Derived.Test.YtnppfibojcgkmaaOrdMath
namespace Go.Proofs.Ytnppfibojcgkmaa
open Ieee

/-- Where a word stands among all: what is no number behind all others. -/
def placeT (b : Nat) : Int := if isN double b = true then 9223372036854775807 else plc double b
theorem plc_le (b : Nat) (hb : b < 2 * double.signWeight) (hn : isN double b = false) : -9218868437227405312 ≤ plc double b ∧ plc double b ≤ 9218868437227405312 := by
  obtain ⟨s, r, hr, e1, e2, e3⟩ := word_split double b hb
  unfold isN at hn
  rw [e1, d_inf] at hn
  have : r ≤ 9218868437227405312 := by simpa using hn
  rw [e3]
  unfold sg
  cases s <;> simp <;> omega
theorem placeT_le (b : Nat) (hb : b < 2 * double.signWeight) : placeT b ≤ 9223372036854775807 := by
  unfold placeT
  cases h : isN double b with
  | true => simp
  | false => have := plc_le b hb h; simp; omega
theorem placeT_nan (b : Nat) (h : isN double b = true) : placeT b = 9223372036854775807 := by unfold placeT; rw [if_pos h]
theorem placeT_num (b : Nat) (h : isN double b = false) : placeT b = plc double b := by unfold placeT; rw [if_neg (by rw [h]; simp)]
theorem less_nan (x y : Nat) (hy : y < 2 * double.signWeight) (h : isN double x = true) : ¬ placeT x < placeT y := by
  have := placeT_le y hy
  rw [placeT_nan x h]
  omega
theorem less_num_nan (x y : Nat) (hx : x < 2 * double.signWeight) (h : isN double x = false) (h' : isN double y = true) : placeT x < placeT y := by
  have := plc_le x hx h
  rw [placeT_nan y h', placeT_num x h]
  omega
theorem order_place (x y : Nat) (hx : x < 2 * double.signWeight) (hy : y < 2 * double.signWeight) (h : isN double x = false) (h' : isN double y = false) : double.order x y = some (compare (placeT x) (placeT y)) := by
  rw [order_word double dE x y hx hy h h', placeT_num x h, placeT_num y h']
theorem some_lt (a b : Int) : (some (compare a b) == some Ordering.lt) = decide (a < b) := by
  rcases Int.lt_trichotomy a b with h | h | h
  · rw [cmp_lt h]; simp [h]
  · rw [cmp_eq h]; simp [h]
  · rw [cmp_gt h]; simp; omega
theorem some_eq (a b : Int) : (some (compare a b) == some Ordering.eq) = decide (a = b) := by
  rcases Int.lt_trichotomy a b with h | h | h
  · rw [cmp_lt h]; simp; omega
  · rw [cmp_eq h]; simp [h]
  · rw [cmp_gt h]; simp; omega
theorem some_gt (a b : Int) : (some (compare a b) == some Ordering.gt) = decide (b < a) := by
  rcases Int.lt_trichotomy a b with h | h | h
  · rw [cmp_lt h]; simp; omega
  · rw [cmp_eq h]; simp [h]
  · rw [cmp_gt h]; simp [h]
theorem rung_num (r : Nat) (h : r ≤ double.infRung) : isN double r = false ∧ plc double r = (r : Int) := by
  have h2 := double.infRung_lt
  unfold isN plc
  rw [Nat.mod_eq_of_lt (by omega), if_neg (by omega)]
  simp
  omega
/-- Two rungs are compared as numbers. -/
theorem order_rung (x y : Nat) (hx : x ≤ double.infRung) (hy : y ≤ double.infRung) : double.order x y = some (compare (x : Int) (y : Int)) := by
  have h2 := double.infRung_lt
  rw [order_word double dE x y (by omega) (by omega) (rung_num x hx).1 (rung_num y hy).1, (rung_num x hx).2, (rung_num y hy).2]
end Go.Proofs.Ytnppfibojcgkmaa
