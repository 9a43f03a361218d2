import Derived.Sort.LotA
import Derived.Test.YtpbinkmeldkehaaJ1
import Derived.Shelf.SlSortCmp.Insertion1
import Derived.Deep.LoopGhost
namespace Go.Proofs.Ytpbinkmeldkehaa
open Go
set_option maxRecDepth 20000

/-! Lists that are sorted by a falling number, those of one number in their order. -/
section
variable {α : Type} (p : α → Int)
/-- No later one has a greater number. -/
def Desc (l : List α) : Prop := l.Pairwise fun x y => p y ≤ p x
/-- Those of each number are the same, in the same order. -/
def Alike (l l' : List α) : Prop := ∀ k : Int, l.filter (fun x => p x == k) = l'.filter (fun x => p x == k)
theorem Alike.refl (l : List α) : Alike p l l := fun _ => rfl
variable {p}
theorem Alike.symm {l l' : List α} (h : Alike p l l') : Alike p l' l := fun k => (h k).symm
theorem Alike.trans {l l' l'' : List α} (h : Alike p l l') (h' : Alike p l' l'') : Alike p l l'' := fun k => (h k).trans (h' k)
theorem Alike.app {a a' b b' : List α} (h : Alike p a a') (h' : Alike p b b') : Alike p (a ++ b) (a' ++ b') := fun k => by
  rw [List.filter_append, List.filter_append, h k, h' k]
theorem Alike.mem {l l' : List α} (h : Alike p l l') (x : α) : x ∈ l ↔ x ∈ l' := by
  have e : ∀ m : List α, x ∈ m ↔ x ∈ m.filter (fun y => p y == p x) := fun m => by simp [List.mem_filter]
  rw [e l, h (p x), ← e l']
theorem alike_swap {X Y : List α} (h : ∀ y ∈ Y, ∀ x ∈ X, p x < p y) : Alike p (X ++ Y) (Y ++ X) := fun k => by
  rw [List.filter_append, List.filter_append]
  cases hx : X.filter (fun x => p x == k) with
  | nil => simp
  | cons x l =>
    have hxm : x ∈ X.filter (fun x => p x == k) := by rw [hx]; simp
    have hy : Y.filter (fun x => p x == k) = [] := by
      rw [List.filter_eq_nil_iff]
      intro y hy hk
      have h1 := (List.mem_filter.1 hxm)
      have := h y hy x h1.1
      simp at hk
      have h2 := h1.2
      simp at h2
      omega
    rw [hy]; simp
theorem merge_step {X1 X2 Y1 Y2 Z1 Z2 : List α} (hX : Desc p (X1 ++ X2)) (hY : Desc p (Y1 ++ Y2)) (h1 : ∀ x ∈ X1, ∀ y ∈ Y2, p y ≤ p x) (h2 : ∀ y ∈ Y1, ∀ x ∈ X2, p x < p y)
    (d1 : Desc p Z1) (a1 : Alike p Z1 (X1 ++ Y1)) (d2 : Desc p Z2) (a2 : Alike p Z2 (X2 ++ Y2)) : Desc p (Z1 ++ Z2) ∧ Alike p (Z1 ++ Z2) ((X1 ++ X2) ++ (Y1 ++ Y2)) := by
  refine ⟨List.pairwise_append.2 ⟨d1, d2, fun u hu v hv => ?_⟩, ?_⟩
  · have hx := (List.pairwise_append.1 hX).2.2
    have hy := (List.pairwise_append.1 hY).2.2
    rcases List.mem_append.1 ((a1.mem u).1 hu) with u1 | u1 <;> rcases List.mem_append.1 ((a2.mem v).1 hv) with v1 | v1
    · exact hx u u1 v v1
    · exact h1 u u1 v v1
    · have := h2 u u1 v v1; omega
    · exact hy u u1 v v1
  · have e : Alike p (X2 ++ Y1) (Y1 ++ X2) := alike_swap h2
    refine (a1.app a2).trans ?_
    have := ((Alike.refl p X1).app e.symm).app (Alike.refl p Y2)
    simpa [List.append_assoc] using this
end

/-! The same of a part of an array, place by place. -/
section
variable {α : Type}
def segF (f : Nat → α) (a n : Nat) : List α := (List.range n).map fun i => f (a + i)
theorem segF_add (f : Nat → α) (a n m : Nat) : segF f a (n + m) = segF f a n ++ segF f (a + n) m := by
  unfold segF
  rw [List.range_add, List.map_append, List.map_map]
  congr 1
  apply List.map_congr_left
  intro i _
  simp [Nat.add_assoc]
theorem segF_congr {f g : Nat → α} {a b n : Nat} (h : ∀ i, i < n → f (a + i) = g (b + i)) : segF f a n = segF g b n :=
  List.map_congr_left fun i hi => h i (by simpa using hi)
theorem segF_mem {f : Nat → α} {a n : Nat} {x : α} (h : x ∈ segF f a n) : ∃ i, a ≤ i ∧ i < a + n ∧ f i = x := by
  obtain ⟨i, hi, rfl⟩ := List.mem_map.1 h
  exact ⟨a + i, by omega, by have := List.mem_range.1 hi; omega, rfl⟩
theorem segF_one (f : Nat → α) (a : Nat) : segF f a 1 = [f a] := rfl
variable (p : α → Int)
def DescF (f : Nat → α) (a b : Nat) : Prop := ∀ i j, a ≤ i → i < j → j < b → p (f j) ≤ p (f i)
variable {p}
theorem DescF.seg {f : Nat → α} {a n : Nat} (h : DescF p f a (a + n)) : Desc p (segF f a n) := by
  unfold Desc segF
  rw [List.pairwise_map]
  refine List.Pairwise.imp_of_mem ?_ List.pairwise_lt_range
  intro i j hi hj hij
  have := List.mem_range.1 hj
  exact h _ _ (by omega) (by omega) (by omega)
theorem Desc.of_seg {f : Nat → α} {a n : Nat} (h : Desc p (segF f a n)) : DescF p f a (a + n) := by
  intro i j hi hij hj
  have h' := List.pairwise_iff_getElem.1 h (i - a) (j - a) (by simp [segF]; omega) (by simp [segF]; omega) (by omega)
  simp only [segF, List.getElem_map, List.getElem_range] at h'
  rwa [show a + (i - a) = i by omega, show a + (j - a) = j by omega] at h'
theorem DescF.part {f : Nat → α} {a b a' b' : Nat} (h : DescF p f a b) (h1 : a ≤ a') (h2 : b' ≤ b) : DescF p f a' b' := fun i j hi hij hj => h i j (by omega) hij (by omega)
theorem DescF.congr {f g : Nat → α} {a b : Nat} (h : DescF p f a b) (e : ∀ t, a ≤ t → t < b → g t = f t) : DescF p g a b := fun i j hi hij hj => by
  rw [e i hi (by omega), e j (by omega) hj]; exact h i j hi hij hj
theorem DescF.le {f : Nat → α} {a b : Nat} (h : DescF p f a b) {i j : Nat} (h1 : a ≤ i) (h2 : i ≤ j) (h3 : j < b) : p (f j) ≤ p (f i) := by
  by_cases e : i = j
  · subst e; exact Int.le_refl _
  · exact h i j h1 (by omega) h3

/-- Two parts changed for one another. -/
def swapF (f : Nat → α) (a b n : Nat) : Nat → α := fun t => if a ≤ t ∧ t < a + n then f (t + b - a) else if b ≤ t ∧ t < b + n then f (t + a - b) else f t
/-- [a, m) and [m, b) laid the other way round. -/
def rotF (f : Nat → α) (a m b : Nat) : Nat → α := fun t => if a ≤ t ∧ t < a + (b - m) then f (t + (m - a)) else if a + (b - m) ≤ t ∧ t < b then f (t - (b - m)) else f t
theorem rot_left (f : Nat → α) (m i j : Nat) (hi : i ≤ m) (h : j < i) (h0 : 0 < j) : rotF (swapF f (m - i) m j) (m - (i - j)) m (m + j) = rotF f (m - i) m (m + j) := by
  funext t
  simp only [rotF, swapF]
  repeat' split
  all_goals first | omega | (congr 1; omega) | rfl
theorem rot_right (f : Nat → α) (m i j : Nat) (hi : i ≤ m) (h : i < j) (h0 : 0 < i) : rotF (swapF f (m - i) (m + j - i) i) (m - i) m (m + (j - i)) = rotF f (m - i) m (m + j) := by
  funext t
  simp only [rotF, swapF]
  repeat' split
  all_goals first | omega | (congr 1; omega) | rfl
theorem rot_end (f : Nat → α) (m i : Nat) (hi : i ≤ m) : swapF f (m - i) m i = rotF f (m - i) m (m + i) := by
  funext t
  simp only [rotF, swapF]
  repeat' split
  all_goals first | omega | (congr 1; omega) | rfl
theorem rotF_out (f : Nat → α) {a m b t : Nat} (hm : m ≤ b) (ham : a ≤ m) (h : t < a ∨ b ≤ t) : rotF f a m b t = f t := by
  simp only [rotF]
  rw [if_neg (by omega), if_neg (by omega)]
theorem rotF_seg (f : Nat → α) {a m b : Nat} (ham : a ≤ m) (hmb : m ≤ b) : segF (rotF f a m b) a (b - a) = segF f m (b - m) ++ segF f a (m - a) := by
  rw [show b - a = (b - m) + (m - a) by omega, segF_add]
  congr 1
  · refine segF_congr fun i hi => ?_
    simp only [rotF]
    rw [if_pos (by omega)]; congr 1; omega
  · refine segF_congr fun i hi => ?_
    simp only [rotF]
    rw [if_neg (by omega), if_pos (by omega)]; congr 1; omega
/-- Two neighbours changed. -/
def swp1 (f : Nat → α) (i j : Nat) : Nat → α := fun t => if t = j then f i else if t = i then f j else f t
theorem rot_up (f : Nat → α) (a k : Nat) (hk : a ≤ k) : swp1 (rotF f a (a + 1) (k + 1)) k (k + 1) = rotF f a (a + 1) (k + 2) := by
  funext t
  simp only [rotF, swp1]
  repeat' split
  all_goals first | omega | (congr 1; omega) | rfl
theorem rot_up0 (f : Nat → α) (a : Nat) : rotF f a (a + 1) (a + 1) = f := by
  funext t
  simp only [rotF]
  repeat' split
  all_goals first | omega | (congr 1; omega) | rfl
theorem rot_down (f : Nat → α) (m k : Nat) (hk : k < m) : swp1 (rotF f (k + 1) m (m + 1)) (k + 1) k = rotF f k m (m + 1) := by
  funext t
  simp only [rotF, swp1]
  repeat' split
  all_goals first | omega | (congr 1; omega) | rfl
theorem rot_down0 (f : Nat → α) (m : Nat) : rotF f m m (m + 1) = f := by
  funext t
  simp only [rotF]
  repeat' split
  all_goals first | omega | (congr 1; omega) | rfl
theorem swap_step (f : Nat → α) (a b i : Nat) (h : a + i < b) : swp1 (swapF f a b i) (a + i) (b + i) = swapF f a b (i + 1) := by
  funext t
  simp only [swapF, swp1]
  repeat' split
  all_goals first | omega | (congr 1; omega) | rfl
theorem swap_zero (f : Nat → α) (a b : Nat) : swapF f a b 0 = f := by
  funext t
  simp only [swapF]
  repeat' split
  all_goals first | omega | rfl

theorem rot_none1 (f : Nat → α) (m b : Nat) : rotF f m m b = f := by
  funext t
  simp only [rotF]
  repeat' split
  all_goals first | omega | (congr 1; omega) | rfl
theorem rot_none2 (f : Nat → α) (a m : Nat) : rotF f a m m = f := by
  funext t
  simp only [rotF]
  repeat' split
  all_goals first | omega | (congr 1; omega) | rfl
/-- What comes of two sorted parts that lie side by side. -/
structure Merged (p : α → Int) (f g : Nat → α) (a b : Nat) : Prop where
  out : ∀ t, t < a ∨ b ≤ t → g t = f t
  desc : DescF p g a b
  alike : Alike p (segF g a (b - a)) (segF f a (b - a))
theorem Merged.refl {f : Nat → α} {a b : Nat} (h : DescF p f a b) : Merged p f f a b := ⟨fun _ _ => rfl, h, Alike.refl _ _⟩
/-- THE STEP OF THE MERGE: parted at 'start' and 'end', turned about, both halves merged. -/
theorem merged_step {f g1 g2 : Nat → α} {a m b mid start en : Nat} (h1 : a ≤ start) (h2 : start ≤ m) (h3 : m ≤ en) (h4 : en ≤ b) (hn : start + en = mid + m) (hmid : a ≤ mid ∧ mid ≤ b)
    (hX : DescF p f a m) (hY : DescF p f m b)
    (q1 : start = a ∨ en = b ∨ p (f en) ≤ p (f (start - 1))) (q2 : start = m ∨ en = m ∨ p (f start) < p (f (en - 1)))
    (m1 : Merged p (rotF f start m en) g1 a mid) (m2 : Merged p g1 g2 mid b) : Merged p f g2 a b := by
  have eL : segF (rotF f start m en) a (mid - a) = segF f a (start - a) ++ segF f m (en - m) := by
    rw [show mid - a = (start - a) + (en - m) by omega, segF_add]
    congr 1
    · refine segF_congr fun i hi => rotF_out f h3 h2 (by omega)
    · refine segF_congr fun i hi => ?_
      simp only [rotF]
      rw [if_pos (by omega)]; congr 1; omega
  have eR : segF (rotF f start m en) mid (b - mid) = segF f start (m - start) ++ segF f en (b - en) := by
    rw [show b - mid = (m - start) + (b - en) by omega, segF_add]
    congr 1
    · refine segF_congr fun i hi => ?_
      simp only [rotF]
      rw [if_neg (by omega), if_pos (by omega)]; congr 1; omega
    · refine segF_congr fun i hi => ?_
      rw [rotF_out f h3 h2 (by omega)]
      congr 1; omega
  have eR' : segF g1 mid (b - mid) = segF f start (m - start) ++ segF f en (b - en) := by
    rw [← eR]
    exact segF_congr fun i hi => m1.out _ (by omega)
  have eL' : segF g2 a (mid - a) = segF g1 a (mid - a) := segF_congr fun i hi => m2.out _ (by omega)
  have eX : segF f a (m - a) = segF f a (start - a) ++ segF f start (m - start) := by
    rw [show m - a = (start - a) + (m - start) by omega, segF_add]; congr 2; omega
  have eY : segF f m (b - m) = segF f m (en - m) ++ segF f en (b - en) := by
    rw [show b - m = (en - m) + (b - en) by omega, segF_add]; congr 2; omega
  have eA : segF f a (b - a) = segF f a (m - a) ++ segF f m (b - m) := by
    rw [show b - a = (m - a) + (b - m) by omega, segF_add]; congr 2; omega
  have eG : segF g2 a (b - a) = segF g1 a (mid - a) ++ segF g2 mid (b - mid) := by
    rw [← eL', show b - a = (mid - a) + (b - mid) by omega, segF_add]; congr 2; omega
  have dX : Desc p (segF f a (start - a) ++ segF f start (m - start)) := by
    rw [← eX]; exact DescF.seg (by rw [show a + (m - a) = m by omega]; exact hX)
  have dY : Desc p (segF f m (en - m) ++ segF f en (b - en)) := by
    rw [← eY]; exact DescF.seg (by rw [show m + (b - m) = b by omega]; exact hY)
  have d1 : Desc p (segF g1 a (mid - a)) := DescF.seg (by rw [show a + (mid - a) = mid by omega]; exact m1.desc)
  have d2 : Desc p (segF g2 mid (b - mid)) := DescF.seg (by rw [show mid + (b - mid) = b by omega]; exact m2.desc)
  obtain ⟨D, A⟩ := merge_step dX dY (fun x hx y hy => by
      obtain ⟨i, i1, i2, rfl⟩ := segF_mem hx
      obtain ⟨j, j1, j2, rfl⟩ := segF_mem hy
      have e1 : p (f (start - 1)) ≤ p (f i) := hX.le (by omega) (by omega) (by omega)
      have e2 : p (f j) ≤ p (f en) := hY.le (by omega) (by omega) (by omega)
      omega) (fun y hy x hx => by
      obtain ⟨i, i1, i2, rfl⟩ := segF_mem hx
      obtain ⟨j, j1, j2, rfl⟩ := segF_mem hy
      have e1 : p (f i) ≤ p (f start) := hX.le (by omega) (by omega) (by omega)
      have e2 : p (f (en - 1)) ≤ p (f j) := hY.le (by omega) (by omega) (by omega)
      omega) d1 (by rw [← eL]; exact m1.alike) d2 (by rw [← eR']; exact m2.alike)
  refine ⟨fun t ht => ?_, ?_, ?_⟩
  · rw [m2.out t (by omega), m1.out t (by omega), rotF_out f h3 h2 (by omega)]
  · rw [← eG] at D
    have := Desc.of_seg D
    rwa [show a + (b - a) = b by omega] at this
  · rw [eG, eA, eX, eY]; exact A
/-- Where a half is empty nothing is left to do. -/
theorem merged_none {f : Nat → α} {a m b start en mid : Nat} (h1 : a ≤ start) (h2 : start ≤ m) (h3 : m ≤ en) (h4 : en ≤ b) (hn : start + en = mid + m) (hX : DescF p f a m) (hY : DescF p f m b) (hc : ¬ (a < start ∧ start < mid)) :
    DescF p (rotF f start m en) a mid := by
  by_cases e : start = a
  · subst e
    intro i j hi hij hj
    simp only [rotF]
    rw [if_pos (by omega), if_pos (by omega)]
    exact hY _ _ (by omega) (by omega) (by omega)
  · have : en = m := by omega
    subst this
    refine (hX.part (Nat.le_refl a) (b' := mid) (by omega)).congr fun t h5 h6 => rotF_out f (Nat.le_refl _) h2 (by omega)
theorem merged_none2 {f g : Nat → α} {a m b start en mid : Nat} (h1 : a ≤ start) (h2 : start ≤ m) (h3 : m ≤ en) (h4 : en ≤ b) (hn : start + en = mid + m) (hX : DescF p f a m) (hY : DescF p f m b) (hg : ∀ t, mid ≤ t → g t = rotF f start m en t) (hc : ¬ (mid < en ∧ en < b)) :
    DescF p g mid b := by
  by_cases e : en = b
  · subst e
    intro i j hi hij hj
    rw [hg _ (by omega), hg _ (by omega)]
    simp only [rotF]
    rw [if_neg (by omega), if_pos (by omega), if_neg (by omega), if_pos (by omega)]
    exact hX _ _ (by omega) (by omega) (by omega)
  · have : start = m := by omega
    subst this
    refine (hY.part (a' := mid) (by omega) (Nat.le_refl b)).congr fun t h5 h6 => ?_
    rw [hg t h5]
    by_cases ht : t < en
    · simp only [rotF]
      rw [if_pos (by omega)]; congr 1; omega
    · exact rotF_out f h3 (Nat.le_refl _) (by omega)
/-- ONE ELEMENT ahead of a sorted part. -/
theorem merged_one {f : Nat → α} {a i b : Nat} (h1 : a + 1 ≤ i) (h2 : i ≤ b) (hY : DescF p f (a + 1) b) (q1 : i = a + 1 ∨ p (f a) < p (f (i - 1))) (q2 : i = b ∨ p (f i) ≤ p (f a)) : Merged p f (rotF f a (a + 1) i) a b := by
  have eG : segF (rotF f a (a + 1) i) a (b - a) = (segF f (a + 1) (i - (a + 1)) ++ [f a]) ++ segF f i (b - i) := by
    rw [show b - a = (i - a) + (b - i) by omega, segF_add, rotF_seg f (by omega) h1]
    congr 1
    · rw [show a + 1 - a = 1 by omega, segF_one]
    · rw [show a + (i - a) = i by omega]
      exact segF_congr fun k hk => rotF_out f h1 (by omega) (by omega)
  have eF : segF f a (b - a) = ([f a] ++ segF f (a + 1) (i - (a + 1))) ++ segF f i (b - i) := by
    rw [show b - a = (1 + (i - (a + 1))) + (b - i) by omega, segF_add, segF_add, segF_one]
    congr 2; omega
  have e1 : ∀ y ∈ segF f (a + 1) (i - (a + 1)), p (f a) < p y := fun y hy => by
    obtain ⟨j, j1, j2, rfl⟩ := segF_mem hy
    have := hY.le (i := j) (j := i - 1) (by omega) (by omega) (by omega)
    omega
  have e2 : ∀ y ∈ segF f i (b - i), p y ≤ p (f a) := fun y hy => by
    obtain ⟨j, j1, j2, rfl⟩ := segF_mem hy
    have := hY.le (i := i) (j := j) (by omega) (by omega) (by omega)
    omega
  have dY : Desc p (segF f (a + 1) (i - (a + 1)) ++ segF f i (b - i)) := by
    have := DescF.seg (p := p) (f := f) (a := a + 1) (n := b - (a + 1)) (by rw [show a + 1 + (b - (a + 1)) = b by omega]; exact hY)
    rw [show b - (a + 1) = (i - (a + 1)) + (b - i) by omega, segF_add, show a + 1 + (i - (a + 1)) = i by omega] at this
    exact this
  obtain ⟨y1, y2, y3⟩ := List.pairwise_append.1 dY
  refine ⟨fun t ht => rotF_out f h1 (by omega) (by omega), ?_, ?_⟩
  · have : Desc p (segF (rotF f a (a + 1) i) a (b - a)) := by
      rw [eG]
      refine List.pairwise_append.2 ⟨List.pairwise_append.2 ⟨y1, by simp, fun u hu v hv => ?_⟩, y2, fun u hu v hv => ?_⟩
      · obtain rfl : v = f a := by simpa using hv
        have := e1 u hu; omega
      · rcases List.mem_append.1 hu with hu | hu
        · exact y3 u hu v hv
        · obtain rfl : u = f a := by simpa using hu
          exact e2 v hv
    have := Desc.of_seg this
    rwa [show a + (b - a) = b by omega] at this
  · rw [eG, eF]
    refine Alike.app (Alike.symm (alike_swap ?_)) (Alike.refl _ _)
    intro y hy x hx
    obtain rfl : x = f a := by simpa using hx
    exact e1 y hy
/-- ONE ELEMENT behind a sorted part. -/
theorem merged_last {f : Nat → α} {a i m : Nat} (h1 : a ≤ i) (h2 : i ≤ m) (hX : DescF p f a m) (q1 : i = a ∨ p (f m) ≤ p (f (i - 1))) (q2 : i = m ∨ p (f i) < p (f m)) : Merged p f (rotF f i m (m + 1)) a (m + 1) := by
  have eG : segF (rotF f i m (m + 1)) a (m + 1 - a) = segF f a (i - a) ++ ([f m] ++ segF f i (m - i)) := by
    rw [show m + 1 - a = (i - a) + (m + 1 - i) by omega, segF_add]
    congr 1
    · exact segF_congr fun k hk => rotF_out f (by omega) h2 (by omega)
    · rw [show a + (i - a) = i by omega, rotF_seg f h2 (by omega), show m + 1 - m = 1 by omega, segF_one]
  have eF : segF f a (m + 1 - a) = segF f a (i - a) ++ (segF f i (m - i) ++ [f m]) := by
    rw [show m + 1 - a = (i - a) + ((m - i) + 1) by omega, segF_add, segF_add, segF_one, show a + (i - a) = i by omega, show i + (m - i) = m by omega]
  have e1 : ∀ y ∈ segF f a (i - a), p (f m) ≤ p y := fun y hy => by
    obtain ⟨j, j1, j2, rfl⟩ := segF_mem hy
    have := hX.le (i := j) (j := i - 1) (by omega) (by omega) (by omega)
    omega
  have e2 : ∀ y ∈ segF f i (m - i), p y < p (f m) := fun y hy => by
    obtain ⟨j, j1, j2, rfl⟩ := segF_mem hy
    have := hX.le (i := i) (j := j) (by omega) (by omega) (by omega)
    omega
  have dX : Desc p (segF f a (i - a) ++ segF f i (m - i)) := by
    have := DescF.seg (p := p) (f := f) (a := a) (n := m - a) (by rw [show a + (m - a) = m by omega]; exact hX)
    rw [show m - a = (i - a) + (m - i) by omega, segF_add, show a + (i - a) = i by omega] at this
    exact this
  obtain ⟨y1, y2, y3⟩ := List.pairwise_append.1 dX
  refine ⟨fun t ht => rotF_out f (by omega) h2 (by omega), ?_, ?_⟩
  · have : Desc p (segF (rotF f i m (m + 1)) a (m + 1 - a)) := by
      rw [eG]
      refine List.pairwise_append.2 ⟨y1, List.pairwise_append.2 ⟨by simp, y2, fun u hu v hv => ?_⟩, fun u hu v hv => ?_⟩
      · obtain rfl : u = f m := by simpa using hu
        have := e2 v hv; omega
      · rcases List.mem_append.1 hv with hv | hv
        · obtain rfl : v = f m := by simpa using hv
          exact e1 u hu
        · exact y3 u hu v hv
    have := Desc.of_seg this
    rwa [show a + (m + 1 - a) = m + 1 by omega] at this
  · rw [eG, eF]
    refine Alike.app (Alike.refl _ _) (alike_swap ?_).symm
    intro y hy x hx
    obtain rfl : y = f m := by simpa using hy
    exact e2 x hx
end

/-! The insertion sort is stable. -/
section
open Go.Sort
variable {α : Type} {p : α → Int}
theorem alike_pair {f : Nat → α} {a b j : Nat} (ha : a ≤ j) (hb : j + 1 < b) (h : p (f j) < p (f (j + 1))) : Alike p (segF (swp1 f (j + 1) j) a (b - a)) (segF f a (b - a)) := by
  have e : ∀ g : Nat → α, segF g a (b - a) = segF g a (j - a) ++ (([g j] ++ [g (j + 1)]) ++ segF g (j + 2) (b - (j + 2))) := fun g => by
    rw [show b - a = (j - a) + (2 + (b - (j + 2))) by omega, segF_add, segF_add, show a + (j - a) = j by omega]
    rfl
  rw [e, e]
  have s1 : segF (swp1 f (j + 1) j) a (j - a) = segF f a (j - a) := segF_congr fun i hi => by simp only [swp1]; rw [if_neg (by omega), if_neg (by omega)]
  have s2 : segF (swp1 f (j + 1) j) (j + 2) (b - (j + 2)) = segF f (j + 2) (b - (j + 2)) := segF_congr fun i hi => by simp only [swp1]; rw [if_neg (by omega), if_neg (by omega)]
  rw [s1, s2]
  have s3 : swp1 f (j + 1) j j = f (j + 1) := by simp [swp1]
  have s4 : swp1 f (j + 1) j (j + 1) = f j := by simp [swp1]
  rw [s3, s4]
  refine Alike.app (Alike.refl _ _) (Alike.app (alike_swap ?_).symm (Alike.refl _ _))
  intro y hy x hx
  obtain rfl : y = f (j + 1) := by simpa using hy
  obtain rfl : x = f j := by simpa using hx
  exact h
def ltP (p : α → Int) : α → α → Bool := fun x y => decide (p y < p x)
theorem swo_ltP : SWO (ltP p) := ⟨fun x => by simp [ltP], fun x y z h1 h2 => by simp [ltP] at *; omega, fun x y z h1 h2 => by simp [ltP] at *; omega⟩
end
section
open Go.Sort
variable {α : Type} [Inhabited α] {p : α → Int}
def arrF (d : Array α) : Nat → α := fun i => d[i]!
theorem swp_fun (d : Array α) (i j : Nat) (hi : i < d.size) (hj : j < d.size) : arrF (swp d i j) = swp1 (arrF d) i j := by
  funext t
  unfold arrF swp1
  rw [swp_get d hi hj]
theorem insInner_alike (a b : Nat) : ∀ (j : Nat) (d : Array α), j < b → b ≤ d.size → (insInner (ltP p) a j d).size = d.size ∧ Alike p (segF (arrF (insInner (ltP p) a j d)) a (b - a)) (segF (arrF d) a (b - a))
  | 0, d, _, _ => ⟨rfl, Alike.refl _ _⟩
  | j + 1, d, hj, hb => by
    rw [insInner]
    split
    · rename_i hc
      simp only [Bool.and_eq_true, decide_eq_true_eq, ltP] at hc
      obtain ⟨i1, i2⟩ := insInner_alike a b j (swp d (j + 1) j) (by omega) (by rw [swp_size]; exact hb)
      refine ⟨by rw [i1, swp_size], i2.trans ?_⟩
      rw [swp_fun d (j + 1) j (by omega) (by omega)]
      exact alike_pair (by omega) (by omega) hc.2
    · exact ⟨rfl, Alike.refl _ _⟩
theorem insOuter_alike (a b : Nat) : ∀ (n i : Nat) (d : Array α), b - i = n → b ≤ d.size → (insOuter (ltP p) a b i d).size = d.size ∧ Alike p (segF (arrF (insOuter (ltP p) a b i d)) a (b - a)) (segF (arrF d) a (b - a))
  | 0, i, d, hn, hb => by
    rw [insOuter, if_neg (by omega)]
    exact ⟨rfl, Alike.refl _ _⟩
  | n + 1, i, d, hn, hb => by
    rw [insOuter, if_pos (by omega)]
    obtain ⟨i1, i2⟩ := insInner_alike (p := p) a b i d (by omega) hb
    obtain ⟨j1, j2⟩ := insOuter_alike a b n (i + 1) (insInner (ltP p) a i d) (by omega) (by omega)
    exact ⟨by rw [j1, i1], j2.trans i2⟩
/-- THE INSERTION SORT of a part. -/
theorem ins_merged (d : Array α) (a b : Nat) (hab : a ≤ b) (hb : b ≤ d.size) : (insertionSort (ltP p) d a b).size = d.size ∧ Merged p (arrF d) (arrF (insertionSort (ltP p) d a b)) a b := by
  obtain ⟨⟨h1, h2, _⟩, h3⟩ := insertionSort_holds (lt := ltP p) swo_ltP d a b hab hb
  refine ⟨h1, ⟨h2, fun i j hi hij hj => ?_, (insOuter_alike a b (b - (a + 1)) (a + 1) d rfl hb).2⟩⟩
  have := h3 i j hi hij hj
  simp [ltP] at this
  exact this
end
end Go.Proofs.Ytpbinkmeldkehaa
namespace Go.Proofs.Ytpbinkmeldkehaa
open Go Go.Shelf Go.RowKit Go.Lib Go.Sort
set_option maxRecDepth 20000

/-- What the walks of the stable sort ask of a program: its bodies, and their types; an element has k cells. -/
structure StI (P : Program) : Prop where
  mixed : P.follows .mixedOrders = true
  f_swapRange : P.funcs[97]? = some Try.f97
  f_rotate : P.funcs[96]? = some Try.f96
  f_symMerge : P.funcs[94]? = some Try.f94
  f_insertionSort : P.funcs[93]? = some Try.f93
  f_stable : P.funcs[75]? = some Try.f75
  t0 : P.underlying 0 = some (TypeDesc.tuple #[])
  a0 : ∀ w, (isAgg 0).run P w = .ok false w
  z0 : ∀ w, (Go.sizeOf 0).run P w = .ok 1 w
  v0 : ∀ w, (zeroValue 0).run P w = .ok (Value.tuple #[]) w
  t3 : P.underlying 3 = some (TypeDesc.int IntKind.i64)
  a3 : ∀ w, (isAgg 3).run P w = .ok false w
  z3 : ∀ w, (Go.sizeOf 3).run P w = .ok 1 w
  v3 : ∀ w, (zeroValue 3).run P w = .ok (Value.int IntKind.i64 0) w
  t4 : P.underlying 4 = some (TypeDesc.bool)
  a4 : ∀ w, (isAgg 4).run P w = .ok false w
  z4 : ∀ w, (Go.sizeOf 4).run P w = .ok 1 w
  v4 : ∀ w, (zeroValue 4).run P w = .ok (Value.bool false) w
  tS : P.underlying 28 = some (TypeDesc.slice 3)
  aS : ∀ w, (isAgg 28).run P w = .ok false w
  zS : ∀ w, (Go.sizeOf 28).run P w = .ok 1 w
  vS : ∀ w, (zeroValue 28).run P w = .ok (Value.slice none 0 0) w
  tF : P.underlying 83 = some (TypeDesc.func #[3, 3] #[3] false)
  aF : ∀ w, (isAgg 83).run P w = .ok false w
  zF : ∀ w, (Go.sizeOf 83).run P w = .ok 1 w
  vF : ∀ w, (zeroValue 83).run P w = .ok (Value.nilFunc) w
  tU : P.underlying 116 = some (TypeDesc.int IntKind.u64)
  aU : ∀ w, (isAgg 116).run P w = .ok false w
  zU : ∀ w, (Go.sizeOf 116).run P w = .ok 1 w
  vU : ∀ w, (zeroValue 116).run P w = .ok (Value.int IntKind.u64 0) w
theorem stI : StI Try.prog where
  mixed := by kernel_rfl
  f_swapRange := Try.func97
  f_rotate := Try.func96
  f_symMerge := Try.func94
  f_insertionSort := Try.func93
  f_stable := Try.func75
  t0 := Try.underlying0
  a0 := fun w => by kernel_rfl
  z0 := fun w => by kernel_rfl
  v0 := fun w => by kernel_rfl
  t3 := Try.underlying3
  a3 := fun w => by kernel_rfl
  z3 := fun w => by kernel_rfl
  v3 := fun w => by kernel_rfl
  t4 := Try.underlying4
  a4 := fun w => by kernel_rfl
  z4 := fun w => by kernel_rfl
  v4 := fun w => by kernel_rfl
  tS := Try.underlying28
  aS := fun w => by kernel_rfl
  zS := fun w => by kernel_rfl
  vS := fun w => by kernel_rfl
  tF := Try.underlying83
  aF := fun w => by kernel_rfl
  zF := fun w => by kernel_rfl
  vF := fun w => by kernel_rfl
  tU := Try.underlying116
  aU := fun w => by kernel_rfl
  zU := fun w => by kernel_rfl
  vU := fun w => by kernel_rfl

variable {α : Type} [Inhabited α]
set_option maxHeartbeats 8000000 in
set_option maxRecDepth 1000000 in
/-- slices.swapRangeCmpFunc: it exchanges and does not compare. -/
theorem swapRangeI {P : Program} (L : StI P) (enc : α → Value) (g : Nat) (cb : Array Value) (blk off cap a b n : Nat) (d0 d : Array α) (w0 w : World)
    (R : Row1 enc w0 blk off d0) (hs : d0.size = d.size) (S : SW enc w0 blk off d w) (hab : a + n ≤ b) (hb : b + n ≤ d.size) (hsz : d.size < 4611686018427387904) :
    Calls P 97 #[.slice (some ⟨blk, off, none⟩) d.size cap, .int .i64 a, .int .i64 b, .int .i64 n, .func (.func g) #[] cb] w fun e w' => e = .returned (.tuple #[]) ∧ ∃ d', d'.size = d.size ∧ SW enc w0 blk off d' w' ∧ arrF d' = swapF (arrF d) a b n := by
  have mixed := L.mixed
  have t0 := L.t0; have a0 := L.a0; have z0 := L.z0; have v0 := L.v0
  have t3 := L.t3; have a3 := L.a3; have z3 := L.z3; have v3 := L.v3
  have t4 := L.t4; have a4 := L.a4; have z4 := L.z4; have v4 := L.v4
  have tS := L.tS; have aS := L.aS; have zS := L.zS; have vS := L.vS
  have tF := L.tF; have aF := L.aF; have zF := L.zF; have vF := L.vF
  have uS := run_underlying L.tS
  have hcl0 := R.hO.cells
  simp only [Value.cells] at hcl0
  have hst := R.hO.store P
  have FG := L.f_swapRange
  have S0 : Aside (SW enc w0 blk off d w) := S
  clear S
  go_enter FG, Try.ntmps97
  go_wp2
  go_loopg [10] n (fun kx s10 wr => ∃ (i : Nat) (dk : Array α), s10 = .int .i64 i ∧ i ≤ n ∧ n - i ≤ kx ∧ dk.size = d.size ∧ Aside (SW enc w0 blk off dk wr) ∧ Hid (arrF dk = swapF (arrF d) a b i))
  case atStart => exact ⟨0, d, rfl, Nat.zero_le _, Nat.le_refl _, rfl, S0, (swap_zero _ _ _).symm⟩
  case round =>
    clear S0
    obtain ⟨i, dk, rfl, hin, hkx, hds, S1, HE⟩ := hrel
    by_cases hlt : i < n
    · have hltz : (i : Int) < (n : Int) := by omega
      go_wp2_with fail
      obtain ⟨iN44, hiN44⟩ : ∃ q, q = a + i := ⟨_, rfl⟩
      obtain ⟨jN44, hjN44⟩ : ∃ q, q = b + i := ⟨_, rfl⟩
      have ea44 : ((a : Int) + (i : Int)).toNat = iN44 := by omega
      have pa44 : (0 : Int) ≤ (a : Int) + (i : Int) := by omega
      have ba44 : (a : Int) + (i : Int) < (d.size : Int) := by omega
      have ra44 : IntKind.i64.wrap ((a : Int) + (i : Int)) = (a : Int) + (i : Int) := by rw [IntKind.wrap_i64]; omega
      have ec44 : ((b : Int) + (i : Int)).toNat = jN44 := by omega
      have pc44 : (0 : Int) ≤ (b : Int) + (i : Int) := by omega
      have bc44 : (b : Int) + (i : Int) < (d.size : Int) := by omega
      have rc44 : IntKind.i64.wrap ((b : Int) + (i : Int)) = (b : Int) + (i : Int) := by rw [IntKind.wrap_i64]; omega
      obtain ⟨x44, hx44⟩ : ∃ x, x = dk[a + i]! := ⟨_, rfl⟩
      obtain ⟨y44, hy44⟩ : ∃ x, x = dk[b + i]! := ⟨_, rfl⟩
      have S2 : Aside (SW enc w0 blk off (swp dk (a + i) (b + i)) ((wr.setCell ⟨blk, off + iN44, none⟩ (enc y44)).setCell ⟨blk, off + jN44, none⟩ (enc x44)).drew) := by rw [hiN44, hjN44, hx44, hy44]; exact S1.out.swapped R (a + i) (b + i) (by omega) (by omega)
      have HE2 : Hid (arrF (swp dk (a + i) (b + i)) = swapF (arrF d) a b (i + 1)) := by
        show _ = _
        rw [swp_fun dk _ _ (by omega) (by omega), HE.out, swap_step _ _ _ _ (by omega)]
      have c44a := S1.out.c1 R (by omega) (a + i) (by omega)
      have c44b := S1.out.c1 R (by omega) (b + i) (by omega)
      have f44a := S1.out.f1 R (by omega) (a + i) (by omega)
      have f44b := S1.out.f1 R (by omega) (b + i) (by omega)
      obtain ⟨u44, c44c⟩ := S1.out.c2 R (by omega) (a + i) (b + i) (by omega) (by omega) (enc y44)
      rw [← hjN44, ← hiN44] at c44c
      rw [← hx44, ← hiN44] at c44a
      rw [← hy44, ← hjN44] at c44b
      rw [← hiN44] at f44a
      rw [← hjN44] at f44b
      clear S1 hx44 hy44 hiN44 hjN44
      go_wp2_with fail
      go_big_region_o
      clear c44a c44b c44c f44a f44b
      generalize ((wr.setCell ⟨blk, off + iN44, none⟩ (enc y44)).setCell ⟨blk, off + jN44, none⟩ (enc x44)).drew = w2 at S2 ⊢
      clear ea44 ec44
      go_wp2
      go_roundg (n - (i + 1))
      case measure => omega
      case rel => exact ⟨i + 1, swp dk (a + i) (b + i), by go_num, by omega, Nat.le_refl _, by rw [size_swp]; exact hds, S2, HE2⟩
    · have hltz : ¬ (i : Int) < (n : Int) := by omega
      obtain rfl : i = n := by omega
      go_wp2
      go_end0
      exact ⟨rfl, dk, hds, S1.out, HE.out⟩
end Go.Proofs.Ytpbinkmeldkehaa
namespace Go.Proofs.Ytpbinkmeldkehaa
open Go Go.Shelf Go.RowKit Go.Lib Go.Sort
set_option maxRecDepth 20000

variable {α : Type} [Inhabited α]
set_option maxHeartbeats 8000000 in
set_option maxRecDepth 1000000 in
/-- slices.rotateCmpFunc: two parts side by side are laid the other way round. -/
theorem rotateI {P : Program} (L : StI P) (enc : α → Value) (g : Nat) (cb : Array Value) (blk off cap a m b : Nat) (d0 d : Array α) (w0 w : World)
    (R : Row1 enc w0 blk off d0) (hs : d0.size = d.size) (S : SW enc w0 blk off d w) (ham : a < m) (hmb : m < b) (hb : b ≤ d.size) (hsz : d.size < 4611686018427387904) :
    Calls P 96 #[.slice (some ⟨blk, off, none⟩) d.size cap, .int .i64 a, .int .i64 m, .int .i64 b, .func (.func g) #[] cb] w fun e w' => e = .returned (.tuple #[]) ∧ ∃ d', d'.size = d.size ∧ SW enc w0 blk off d' w' ∧ arrF d' = rotF (arrF d) a m b := by
  have mixed := L.mixed
  have t0 := L.t0; have a0 := L.a0; have z0 := L.z0; have v0 := L.v0
  have t3 := L.t3; have a3 := L.a3; have z3 := L.z3; have v3 := L.v3
  have t4 := L.t4; have a4 := L.a4; have z4 := L.z4; have v4 := L.v4
  have tS := L.tS; have aS := L.aS; have zS := L.zS; have vS := L.vS
  have tF := L.tF; have aF := L.aF; have zF := L.zF; have vF := L.vF
  have uS := run_underlying L.tS
  have hcl0 := R.hO.cells
  simp only [Value.cells] at hcl0
  have hst := R.hO.store P
  have FG := L.f_rotate
  have e97 : ∀ args w, (callFunc 97 args).run P w = .ok (.enter 97 args) w := enters_of L.f_swapRange (by kernel_rfl) rfl
  have S0 : Aside (SW enc w0 blk off d w) := S
  clear S
  have LL : Hid (StI P) := L
  clear L
  go_enter FG, Try.ntmps96
  go_wp2
  go_loopg [10, 11] (b - a) (fun kx s10 s11 wr => ∃ (i j : Nat) (dk : Array α), s10 = .int .i64 i ∧ s11 = .int .i64 j ∧ 0 < i ∧ 0 < j ∧ i ≤ m ∧ m + j ≤ b ∧ i + j ≤ kx ∧ dk.size = d.size ∧ Aside (SW enc w0 blk off dk wr) ∧ Hid (rotF (arrF dk) (m - i) m (m + j) = rotF (arrF d) a m b))
  case atStart => exact ⟨m - a, b - m, d, by rw [show ((m - a : Nat) : Int) = (m : Int) - (a : Int) by omega], by rw [show ((b - m : Nat) : Int) = (b : Int) - (m : Int) by omega], by omega, by omega, by omega, by omega, by omega, rfl, S0, by show _ = _; rw [show m - (m - a) = a by omega, show m + (b - m) = b by omega]⟩
  case round =>
    clear S0
    obtain ⟨i, j, dk, rfl, rfl, hi0, hj0, him, hjb, hkx, hds, S1, HE⟩ := hrel
    have em : ((m - i : Nat) : Int) = (m : Int) - (i : Int) := by omega
    by_cases hij : i = j
    · subst hij
      have hc := swapRangeI LL.out enc g cb blk off cap (m - i) m i d0 dk w0 wr R (by omega) S1.out (by omega) (by omega) (by omega)
      rw [em, hds] at hc
      have HE2 : Hid (∀ d' : Array α, arrF d' = swapF (arrF dk) (m - i) m i → arrF d' = rotF (arrF d) a m b) := fun d' h => by rw [h, rot_end _ _ _ him, HE.out]
      clear S1 HE
      go_wp2_with (go_at_fn 97; refine hc.mono ?_; rintro e w1 ⟨rfl, d', hd', S3, hE⟩)
      go_end0
      exact ⟨rfl, d', hd', S3, HE2.out d' hE⟩
    · have hijz : ¬ (i : Int) = (j : Int) := by omega
      by_cases hlt : j < i
      · have hltz : (j : Int) < (i : Int) := by omega
        have hc := swapRangeI LL.out enc g cb blk off cap (m - i) m j d0 dk w0 wr R (by omega) S1.out (by omega) (by omega) (by omega)
        rw [em, hds] at hc
        have HE2 : Hid (∀ d' : Array α, arrF d' = swapF (arrF dk) (m - i) m j → rotF (arrF d') (m - (i - j)) m (m + j) = rotF (arrF d) a m b) := fun d' h => by rw [h, rot_left _ _ _ _ him hlt hj0, HE.out]
        clear S1 HE
        go_wp2_with (go_at_fn 97; refine hc.mono ?_; rintro e w1 ⟨rfl, d', hd', S3, hE⟩)
        go_roundg (i - j + j)
        case measure => omega
        case rel => exact ⟨i - j, j, d', by rw [show ((i - j : Nat) : Int) = (i : Int) - (j : Int) by omega], rfl, by omega, hj0, by omega, hjb, by omega, hd', S3, HE2.out d' hE⟩
      · have hltz : ¬ (j : Int) < (i : Int) := by omega
        have hc := swapRangeI LL.out enc g cb blk off cap (m - i) (m + j - i) i d0 dk w0 wr R (by omega) S1.out (by omega) (by omega) (by omega)
        rw [em, show ((m + j - i : Nat) : Int) = (m : Int) + (j : Int) - (i : Int) by omega, hds] at hc
        have HE2 : Hid (∀ d' : Array α, arrF d' = swapF (arrF dk) (m - i) (m + j - i) i → rotF (arrF d') (m - i) m (m + (j - i)) = rotF (arrF d) a m b) := fun d' h => by rw [h, rot_right _ _ _ _ him (by omega) hi0, HE.out]
        clear S1 HE
        go_wp2_with (go_at_fn 97; refine hc.mono ?_; rintro e w1 ⟨rfl, d', hd', S3, hE⟩)
        go_roundg (i + (j - i))
        case measure => omega
        case rel => exact ⟨i, j - i, d', rfl, by rw [show ((j - i : Nat) : Int) = (j : Int) - (i : Int) by omega], hi0, by omega, him, by omega, by omega, hd', S3, HE2.out d' hE⟩
end Go.Proofs.Ytpbinkmeldkehaa
