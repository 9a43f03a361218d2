import Derived.Test.YtgcfdcgmddjhbaaDoorParseMath
namespace Go.Proofs.YtgcfdcgmddjhbaaDoor
open Go
set_option maxRecDepth 20000

theorem decF_more : ∀ (f g n : Nat), n ≤ f → n ≤ g → decF f n = decF g n
  | 0, 0, _, _, _ => rfl
  | 0, g + 1, n, hf, _ => by
    obtain rfl : n = 0 := by omega
    rfl
  | f + 1, 0, n, _, hg => by
    obtain rfl : n = 0 := by omega
    rfl
  | f + 1, g + 1, n, hf, hg => by
    unfold decF
    split
    · rfl
    · rw [decF_more f g (n / 10) (by omega) (by omega)]
theorem dec_small {n : Nat} (h : n < 10) : dec n = [UInt8.ofNat (48 + n)] := by
  unfold dec
  cases n with
  | zero => rfl
  | succ n => rw [decF, if_pos h]
theorem dec_big {n : Nat} (h : 10 ≤ n) : dec n = dec (n / 10) ++ dec (n % 10) := by
  rw [dec_small (show n % 10 < 10 by omega)]
  unfold dec
  obtain ⟨m, rfl⟩ : ∃ m, n = m + 1 := ⟨n - 1, by omega⟩
  rw [decF, if_neg (by omega), decF_more m ((m + 1) / 10) _ (by omega) (Nat.le_refl _)]
/-- The four ways in which a number is printed. -/
theorem decI_digit {n : Int} (h0 : 0 ≤ n) (h : n < 10) : decI n = [UInt8.ofNat (48 + n.toNat)] := by
  unfold decI
  rw [if_pos h0, dec_small (by omega)]
theorem decI_ten {n : Int} (h : 10 ≤ n) : decI n = decI (n.tdiv 10) ++ decI (n.tmod 10) := by
  obtain ⟨m, rfl⟩ := Int.eq_ofNat_of_zero_le (show 0 ≤ n by omega)
  have e1 : (m : Int).tdiv 10 = ((m / 10 : Nat) : Int) := by rw [Int.tdiv_eq_ediv_of_nonneg (by omega)]; rfl
  have e2 : (m : Int).tmod 10 = ((m % 10 : Nat) : Int) := by rw [Int.tmod_eq_emod_of_nonneg (by omega)]; rfl
  rw [e1, e2]
  unfold decI
  rw [if_pos (by omega), if_pos (by omega), if_pos (by omega), Int.toNat_natCast, Int.toNat_natCast, Int.toNat_natCast, dec_big (by omega)]
theorem decI_minus {n : Int} (h0 : n < 0) : decI n = 45 :: decI (-n) := by
  unfold decI
  rw [if_neg (by omega), if_pos (by omega)]
theorem decI_minusten {n : Int} (h : n ≤ -10) : decI n = decI (n.tdiv 10) ++ decI (-(n.tmod 10)) := by
  have h1 : decI (-n) = decI ((-n).tdiv 10) ++ decI ((-n).tmod 10) := decI_ten (by omega)
  rw [Int.neg_tdiv, Int.neg_tmod] at h1
  have h3 : n.tdiv 10 < 0 := by
    have := Int.tdiv_eq_ediv_of_nonneg (a := -n) (b := 10) (by omega)
    rw [Int.neg_tdiv] at this
    omega
  rw [decI_minus (show n < 0 by omega), h1, decI_minus h3]
  rfl
theorem decF_len : ∀ (k f n : Nat), n < 10 ^ (k + 1) → (decF f n).length ≤ k + 1
  | _, 0, _, _ => by simp [decF]
  | 0, f + 1, n, h => by
    rw [decF, if_pos (by simpa using h)]; simp
  | k + 1, f + 1, n, h => by
    rw [decF]
    split
    · simp
    · rw [List.length_append]
      have := decF_len k f (n / 10) (by rw [Nat.pow_succ] at h; omega)
      simp; omega
theorem decI_len (n : Int) (h0 : -9223372036854775808 ≤ n) (h1 : n ≤ 9223372036854775807) : (decI n).length ≤ 20 := by
  unfold decI dec
  split
  · exact Nat.le_trans (decF_len 18 _ _ (by have e : (10 : Nat) ^ (18 + 1) = 10000000000000000000 := by decide
                                            omega)) (by decide)
  · have := decF_len 18 (-n).toNat (-n).toNat (by have e : (10 : Nat) ^ (18 + 1) = 10000000000000000000 := by decide
                                                  omega)
    simp only [List.length_cons]
    omega

/-- The sign ahead of number j, and what is printed of a clause's first numbers. -/
def signJ (c : Cla) (j : Nat) : UInt8 := if j + 1 = c.nums.length then lastSign c else 46
def numJ (c : Cla) (j : Nat) : List UInt8 := match c.nums[j]? with | some x => decI x.n | none => []
def numsTo (c : Cla) : Nat → List UInt8
  | 0 => []
  | j + 1 => numsTo c j ++ ((if j = 0 then [] else [signJ c j]) ++ numJ c j)
theorem numsP_snoc (s : UInt8) : ∀ (l : List Fig) (x : Fig), numsP s (l ++ [x]) = l.flatMap (fun y => 46 :: decI y.n) ++ s :: decI x.n
  | [], x => rfl
  | [y], x => by simp [numsP]
  | y :: z :: l, x => by
    have := numsP_snoc s (z :: l) x
    rw [List.cons_append, List.cons_append] at *
    rw [numsP, this]
    simp
theorem numsTo_dots (c : Cla) (x : Fig) (l : List Fig) (hc : c.nums = x :: l) : ∀ (j : Nat), j + 1 < c.nums.length → numsTo c (j + 1) = decI x.n ++ (l.take j).flatMap (fun y => 46 :: decI y.n)
  | 0, _ => by simp [numsTo, numJ, hc]
  | j + 1, h => by
    rw [numsTo, numsTo_dots c x l hc j (by omega), if_neg (by omega)]
    have hj : j < l.length := by rw [hc] at h; simp at h; omega
    have e1 : signJ c (j + 1) = 46 := by unfold signJ; rw [if_neg (by omega)]
    have e2 : numJ c (j + 1) = decI l[j].n := by unfold numJ; rw [hc, List.getElem?_cons_succ, List.getElem?_eq_getElem hj]
    rw [e1, e2, List.take_succ_eq_append_getElem hj, List.flatMap_append]
    simp only [List.flatMap_cons, List.flatMap_nil, List.append_nil, List.append_assoc, List.singleton_append]
/-- All of a clause's numbers. -/
theorem numsTo_all (c : Cla) : numsTo c c.nums.length = numsAll c := by
  unfold numsAll
  cases hc : c.nums with
  | nil => rfl
  | cons x l =>
    rcases List.eq_nil_or_concat l with rfl | ⟨l', y, rfl⟩
    · simp [numsTo, numJ, hc, numsP]
    · have hl : c.nums.length = l'.length + 2 := by rw [hc]; simp
      simp only [List.concat_eq_append] at hc ⊢
      rw [show (x :: (l' ++ [y])).length = (l'.length + 1) + 1 by simp, numsTo, numsTo_dots c x _ hc l'.length (by omega), if_neg (by omega), numsP_snoc]
      have e1 : signJ c (l'.length + 1) = lastSign c := by unfold signJ; rw [if_pos (by omega)]
      have e2 : numJ c (l'.length + 1) = decI y.n := by unfold numJ; rw [hc, List.getElem?_cons_succ, List.getElem?_append_right (Nat.le_refl _)]; simp
      rw [e1, e2, List.take_left]
      simp
/-- What is printed of a line's first clauses, and of the first lines. -/
theorem clas_take (l : List Cla) (k : Nat) (c : Cla) (h : l[k]? = some c) : (l.take (k + 1)).flatMap claP = (l.take k).flatMap claP ++ claP c := by
  obtain ⟨hk, rfl⟩ := List.getElem?_eq_some_iff.1 h
  rw [List.take_succ_eq_append_getElem hk, List.flatMap_append]
  simp
theorem print_take (l : List Raw) (k : Nat) (x : Raw) (h : l[k]? = some x) : printT (l.take (k + 1)) = printT (l.take k) ++ rowP x := by
  obtain ⟨hk, rfl⟩ := List.getElem?_eq_some_iff.1 h
  unfold printT
  rw [List.take_succ_eq_append_getElem hk, List.flatMap_append]
  simp
/-- How long it may be. -/
def okN (n : Int) : Prop := -9223372036854775808 ≤ n ∧ n ≤ 9223372036854775807
def okNs (x : Raw) : Prop := okN x.prio.n ∧ okN x.port.n ∧ ∀ c ∈ x.clauses, ∀ f ∈ c.nums, okN f.n
def wtC (c : Cla) : Nat := c.nums.length + c.word.length
def wtR (x : Raw) : Nat := 1 + (x.clauses.map fun c => 1 + wtC c).sum
theorem numsTo_len (c : Cla) (h : ∀ f ∈ c.nums, okN f.n) : ∀ j, (numsTo c j).length ≤ 21 * j
  | 0 => Nat.le_refl _
  | j + 1 => by
    have ih := numsTo_len c h j
    have hn : (numJ c j).length ≤ 20 := by
      unfold numJ
      cases hx : c.nums[j]? with
      | none => simp
      | some x =>
        have := h x (List.mem_of_getElem? hx)
        exact decI_len x.n this.1 this.2
    rw [numsTo, List.length_append, List.length_append]
    split
    · simp; omega
    · simp; omega
theorem claP_len (c : Cla) (h : ∀ f ∈ c.nums, okN f.n) : (claP c).length ≤ 21 * (1 + wtC c) := by
  unfold claP wtC
  rw [← numsTo_all]
  have := numsTo_len c h c.nums.length
  simp only [List.length_cons, List.length_append]
  omega
theorem clas_len : ∀ l : List Cla, (∀ c ∈ l, ∀ f ∈ c.nums, okN f.n) → (l.flatMap claP).length ≤ 21 * (l.map fun c => 1 + wtC c).sum
  | [], _ => by simp
  | c :: l, h => by
    have h1 := claP_len c (h c (by simp))
    have h2 := clas_len l fun d hd => h d (by simp [hd])
    rw [List.flatMap_cons, List.length_append, List.map_cons, List.sum_cons]
    omega
theorem rowP_len (x : Raw) (h : okNs x) : (rowP x).length ≤ 60 * wtR x := by
  obtain ⟨h1, h2, h3⟩ := h
  have e1 := decI_len _ h1.1 h1.2
  have e2 := decI_len _ h2.1 h2.2
  have e3 := clas_len x.clauses h3
  have e4 : (if x.dflt = true then wDefault else decI x.prio.n).length ≤ 20 := by
    split
    · decide
    · exact e1
  have e5 : (actP x).length ≤ 25 := by
    unfold actP
    split
    · decide
    · simp only [List.length_append, List.length_cons, show wPort.length = 4 from rfl]; omega
  unfold rowP headP wtR
  simp only [List.length_append, List.length_cons, List.length_nil]
  omega
theorem printT_len : ∀ l : List Raw, (∀ x ∈ l, okNs x) → (printT l).length ≤ 60 * (l.map wtR).sum
  | [], _ => by simp [printT]
  | x :: l, h => by
    have h1 := rowP_len x (h x (by simp))
    have h2 := printT_len l fun y hy => h y (by simp [hy])
    unfold printT at h2 ⊢
    rw [List.flatMap_cons, List.length_append, List.map_cons, List.sum_cons]
    omega
end Go.Proofs.YtgcfdcgmddjhbaaDoor
