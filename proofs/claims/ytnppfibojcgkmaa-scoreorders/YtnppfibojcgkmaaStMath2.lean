import Derived.Test.YtnppfibojcgkmaaStMath
namespace Go.Proofs.Ytnppfibojcgkmaa
open Go
set_option maxRecDepth 20000

section
variable {α : Type} {p : α → Int}
/-- Sorted block by block, from a place on. -/
def BlkD (p : α → Int) (f : Nat → α) (s lo n : Nat) : Prop := ∀ i j, lo ≤ i → i < j → j < n → i / s = j / s → p (f j) ≤ p (f i)
theorem div_ge {t q j : Nat} (ht : 0 < t) (h : t * q ≤ j) : q ≤ j / t := (Nat.le_div_iff_mul_le ht).2 (by rw [Nat.mul_comm]; exact h)
theorem ge_of_div {t q i : Nat} (ht : 0 < t) (h : q ≤ i / t) : t * q ≤ i := by
  have := (Nat.le_div_iff_mul_le ht).1 h
  rwa [Nat.mul_comm] at this
theorem div_of_in {t q i : Nat} (h1 : t * q ≤ i) (h2 : i < t * q + t) : i / t = q := by
  refine Nat.div_eq_of_lt_le ?_ ?_
  · rw [Nat.mul_comm]; exact h1
  · rw [Nat.add_mul, Nat.one_mul, Nat.mul_comm q t]; exact h2
theorem Merged.whole {f g : Nat → α} {a b n : Nat} (h : Merged p f g a b) (hab : a ≤ b) (hb : b ≤ n) : Alike p (segF g 0 n) (segF f 0 n) := by
  have e : ∀ u : Nat → α, segF u 0 n = segF u 0 a ++ (segF u a (b - a) ++ segF u b (n - b)) := fun u => by
    rw [show n = a + ((b - a) + (n - b)) by omega, segF_add, segF_add, show 0 + a + (b - a) = b by omega, Nat.zero_add, show a + (b - a + (n - b)) - b = n - b by omega]
  rw [e, e]
  refine Alike.app ?_ (Alike.app h.alike ?_)
  · rw [segF_congr (f := g) (g := f) (a := 0) (b := 0) fun i hi => h.out _ (by omega)]; exact Alike.refl _ _
  · rw [segF_congr (f := g) (g := f) (a := b) (b := b) fun i hi => h.out _ (by omega)]; exact Alike.refl _ _
/-- A block more. -/
theorem blk_more {f g : Nat → α} {t q n b : Nat} (ht : 0 < t) (h : BlkD p f t 0 (t * q)) (hb1 : t * q ≤ b) (hb2 : b ≤ t * q + t) (m : Merged p f g (t * q) b) (hn : n = b) : BlkD p g t 0 n := by
  subst hn
  intro i j _ hij hj he
  by_cases c : t * q ≤ j
  · have hi : t * q ≤ i := ge_of_div ht (by rw [he]; exact div_ge ht c)
    exact m.desc i j hi hij hj
  · rw [m.out i (by omega), m.out j (by omega)]
    exact h i j (Nat.zero_le _) hij (by omega) he
/-- What lies behind stays. -/
theorem blk_behind {f g : Nat → α} {s a b n : Nat} (h : BlkD p f s a n) (hab : a ≤ b) (m : Merged p f g a b) : BlkD p g s b n := fun i j hi hij hj he => by
  rw [m.out i (by omega), m.out j (by omega)]
  exact h i j (by omega) hij hj he
theorem blk_desc {f : Nat → α} {s q a n : Nat} (h : BlkD p f s a n) (ha : a ≤ s * q) {b : Nat} (hb : b ≤ s * q + s) (hn : b ≤ n) : DescF p f (s * q) b := fun i j hi hij hj =>
  h i j (by omega) hij (by omega) (by rw [div_of_in hi (by omega), div_of_in (t := s) (q := q) (i := j) (by omega) (by omega)])
theorem blk_all {f : Nat → α} {s n : Nat} (h : BlkD p f s 0 n) (hs : n ≤ s) : DescF p f 0 n := fun i j hi hij hj =>
  h i j hi hij hj (by rw [Nat.div_eq_of_lt (by omega), Nat.div_eq_of_lt (by omega)])
theorem blk_none (f : Nat → α) (s : Nat) : BlkD p f s 0 0 := fun i j _ _ hj _ => by omega
theorem blk_from {f : Nat → α} {s n : Nat} (h : BlkD p f s 0 n) (a : Nat) : BlkD p f s a n := fun i j _ hij hj he => h i j (Nat.zero_le _) hij hj he
theorem blk_upto {f : Nat → α} {s lo n m : Nat} (h : BlkD p f s lo n) (hm : m ≤ n) : BlkD p f s lo m := fun i j hi hij hj he => h i j hi hij (by omega) he
end
end Go.Proofs.Ytnppfibojcgkmaa
