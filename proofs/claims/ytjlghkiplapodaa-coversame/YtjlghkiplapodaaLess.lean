import Derived.Test.YtjlghkiplapodaaAwake
namespace Go.Proofs.Ytjlghkiplapodaa
open Go Go.RowKit

def lessL : List Int → List Int → Bool
  | a :: r, b :: s => if a = b then lessL r s else decide (a < b)
  | _, _ => false

theorem less_refl : ∀ A : List Int, lessL A A = false
  | [] => rfl
  | a :: r => by simp [lessL, less_refl r]
theorem less_anti : ∀ (A B : List Int), A.length = B.length → A ≠ B → lessL A B = !(lessL B A)
  | [], [], _, h => absurd rfl h
  | [], _ :: _, h, _ => by simp at h
  | _ :: _, [], h, _ => by simp at h
  | a :: r, b :: s, hl, h => by
    simp only [lessL]
    by_cases e : a = b
    · subst e
      simp only [if_true]
      exact less_anti r s (by simpa using hl) (fun h' => h (by rw [h']))
    · rw [if_neg e, if_neg (fun h => e h.symm), Bool.eq_iff_iff]
      simp
      omega
theorem less_trans : ∀ (A B C : List Int), A.length = B.length → B.length = C.length → lessL A B = true → lessL B C = true → lessL A C = true
  | [], [], [], _, _, h, _ => by simp [lessL] at h
  | a :: r, b :: s, c :: q, h1, h2, hab, hbc => by
    simp only [lessL] at *
    by_cases e1 : a = b
    · subst e1
      rw [if_pos rfl] at hab
      by_cases e2 : a = c
      · subst e2
        rw [if_pos rfl] at hbc ⊢
        exact less_trans r s q (by simpa using h1) (by simpa using h2) hab hbc
      · rw [if_neg e2] at hbc ⊢; exact hbc
    · rw [if_neg e1] at hab
      have hab' : a < b := by simpa using hab
      by_cases e2 : b = c
      · subst e2; rw [if_neg e1]; exact hab
      · rw [if_neg e2] at hbc
        have hbc' : b < c := by simpa using hbc
        rw [if_neg (by omega)]
        simp; omega

theorem less_drop (A B : List Int) (hA : A.length = 13) (hB : B.length = 13) : ∀ k, k ≤ 13 → (∀ j, j < k → A.getD j 0 = B.getD j 0) → lessL A B = lessL (A.drop k) (B.drop k)
  | 0, _, _ => by simp
  | k + 1, hk, h => by
    rw [less_drop A B hA hB k (by omega) (fun j hj => h j (by omega))]
    have ek := h k (by omega)
    rw [List.drop_eq_getElem_cons (show k < A.length by omega), List.drop_eq_getElem_cons (show k < B.length by omega)]
    simp only [lessL]
    rw [if_pos]
    simpa [List.getD, show k < A.length by omega, show k < B.length by omega] using ek
theorem less_at (A B : List Int) (hA : A.length = 13) (hB : B.length = 13) (k : Nat) (hk : k < 13) (h : ∀ j, j < k → A.getD j 0 = B.getD j 0) (hne : A.getD k 0 ≠ B.getD k 0) : lessL A B = decide (A.getD k 0 < B.getD k 0) := by
  rw [less_drop A B hA hB k (by omega) h, List.drop_eq_getElem_cons (show k < A.length by omega), List.drop_eq_getElem_cons (show k < B.length by omega)]
  simp only [lessL]
  have ea : A.getD k 0 = A[k] := by simp [List.getD, show k < A.length by omega]
  have eb : B.getD k 0 = B[k] := by simp [List.getD, show k < B.length by omega]
  rw [ea, eb] at hne ⊢
  rw [if_neg hne]
theorem less_end (A B : List Int) (hA : A.length = 13) (hB : B.length = 13) (h : ∀ j, j < 13 → A.getD j 0 = B.getD j 0) : lessL A B = false := by
  rw [less_drop A B hA hB 13 (by omega) h, List.drop_of_length_le (by omega), List.drop_of_length_le (by omega)]
  rfl

set_option maxHeartbeats 1000000 in
theorem less_any (A B : List Int) (hA : Byt A) (hB : Byt B) (w : World) :
    Calls Try.prog 36 #[.agg (hv A), .agg (hv B)] w fun e w' => e = .returned (.bool (lessL A B)) ∧ Below w.heap.size w w' := by
  go_enter Try.func36, Try.ntmps36
  go_wp2
  go_loopw [6] (fun i wr => ∃ k : Nat, k ≤ 13 ∧ i = .int .i64 k ∧ (∀ j, j < k → A.getD j 0 = B.getD j 0) ∧ ∃ n, wr = ((w.alloc (.cells (hv A) 24)).alloc (.cells (hv B) 24)).drewN n) (fun i _ => 13 - (intOf i).toNat)
  case atStart => exact ⟨0, Nat.zero_le _, rfl, fun j hj => by omega, 0, rfl⟩
  case round =>
    obtain ⟨k, hk, rfl, hbef, nw, rfl⟩ := hrel
    by_cases hlt : k < 13
    · obtain ⟨x, hx, hxe⟩ : ∃ x, (hv A)[k]? = some (.int .u8 x) ∧ x = A.getD k 0 := ⟨_, hv_at A hA.1 k hlt, rfl⟩
      obtain ⟨y, hy, hye⟩ : ∃ y, (hv B)[k]? = some (.int .u8 y) ∧ y = B.getD k 0 := ⟨_, hv_at B hB.1 k hlt, rfl⟩
      have HX : Hid (x = A.getD k 0) := hxe
      have HY : Hid (y = B.getD k 0) := hye
      have HB : Hid (∀ j, j < k → A.getD j 0 = B.getD j 0) := hbef
      clear hxe hye hbef
      by_cases hne : x = y
      · subst hne
        go_wp2
        go_quiet (fail)
        go_wp2
        go_roundw
        case rel =>
          refine ⟨k + 1, by omega, by go_num, fun j hj => ?_, _, rfl⟩
          by_cases e : j = k
          · subst e; rw [← HX.out, ← HY.out]
          · exact HB.out j (by omega)
        case measure => simp [intOf]; omega
      · have hne' : (x != y) = true := by simpa using hne
        have HN : Hid (¬ x = y) := hne
        clear hne
        go_wp2
        go_quiet (fail)
        go_wp2
        go_quiet (fail)
        go_wp2
        go_ret
        refine ⟨ret_bool ?_, below_drewN (below_drewN (below_drewN (((Below.refl _ _).alloc (Nat.le_refl _) _).alloc (by simp) _) _) _) _⟩
        have hn := HN.out
        rw [HX.out, HY.out] at hn
        rw [less_at A B hA.1 hB.1 k hlt HB.out hn, ← HX.out, ← HY.out]
    · obtain rfl : k = 13 := by omega
      have HB : Hid (∀ j, j < 13 → A.getD j 0 = B.getD j 0) := hbef
      clear hbef
      go_wp2
      go_ret
      exact ⟨ret_bool (less_end A B hA.1 hB.1 HB.out).symm, below_drewN (((Below.refl _ _).alloc (Nat.le_refl _) _).alloc (by simp) _) _⟩

theorem bit_in (A : List Int) (k j : Nat) (hk : k < 13) (hj : j < 8) : bitB A ((8 * k + j : Nat) : Int) = (A.getD k 0 / 2 ^ (7 - j) % 2 == 1) := by
  unfold bitB byteAt
  rw [decide_eq_true (by omega), Bool.true_and, show (((8 * k + j : Nat) : Int) / 8).toNat = k by omega, show (7 - ((8 * k + j : Nat) : Int) % 8).toNat = 7 - j by omega]

theorem byte_eq (x y : Int) (hx : 0 ≤ x ∧ x < 256) (hy : 0 ≤ y ∧ y < 256) (h : ∀ j, j < 8 → (x / 2 ^ (7 - j) % 2 == 1) = (y / 2 ^ (7 - j) % 2 == 1)) : x = y := by
  have g : ∀ j, j < 8 → x / 2 ^ (7 - j) % 2 = y / 2 ^ (7 - j) % 2 := fun j hj => by
    have := h j hj
    rw [Bool.eq_iff_iff, beq_iff_eq, beq_iff_eq] at this
    have a1 : x / 2 ^ (7 - j) % 2 = 0 ∨ x / 2 ^ (7 - j) % 2 = 1 := by omega
    have a2 : y / 2 ^ (7 - j) % 2 = 0 ∨ y / 2 ^ (7 - j) % 2 = 1 := by omega
    omega
  have g0 := g 0 (by decide)
  have g1 := g 1 (by decide)
  have g2 := g 2 (by decide)
  have g3 := g 3 (by decide)
  have g4 := g 4 (by decide)
  have g5 := g 5 (by decide)
  have g6 := g 6 (by decide)
  have g7 := g 7 (by decide)
  simp only [Nat.sub_zero, Nat.reduceSub, Int.reducePow, Int.pow_zero, Int.ediv_one] at g0 g1 g2 g3 g4 g5 g6 g7
  omega
theorem byte_lt (x y : Int) (hx : 0 ≤ x ∧ x < 256) (hy : 0 ≤ y ∧ y < 256) (j : Nat) (hj : j < 8) (h : ∀ l, l < j → (x / 2 ^ (7 - l) % 2 == 1) = (y / 2 ^ (7 - l) % 2 == 1)) (hne : (x / 2 ^ (7 - j) % 2 == 1) ≠ (y / 2 ^ (7 - j) % 2 == 1)) :
    x ≠ y ∧ decide (x < y) = (y / 2 ^ (7 - j) % 2 == 1) := by
  have g : ∀ l, l < j → x / 2 ^ (7 - l) % 2 = y / 2 ^ (7 - l) % 2 := fun l hl => by
    have := h l hl
    rw [Bool.eq_iff_iff, beq_iff_eq, beq_iff_eq] at this
    have a1 : x / 2 ^ (7 - l) % 2 = 0 ∨ x / 2 ^ (7 - l) % 2 = 1 := by omega
    have a2 : y / 2 ^ (7 - l) % 2 = 0 ∨ y / 2 ^ (7 - l) % 2 = 1 := by omega
    omega
  have hn : x / 2 ^ (7 - j) % 2 ≠ y / 2 ^ (7 - j) % 2 := fun e => hne (by rw [e])
  rw [Bool.eq_iff_iff, beq_iff_eq, decide_eq_true_eq]
  rcases (show j = 0 ∨ j = 1 ∨ j = 2 ∨ j = 3 ∨ j = 4 ∨ j = 5 ∨ j = 6 ∨ j = 7 by omega) with e | e | e | e | e | e | e | e
  all_goals subst e
  · simp only [Nat.sub_zero, Int.reducePow] at hn ⊢; omega
  · have g0 := g 0 (by decide)
    simp only [Nat.sub_zero, Nat.reduceSub, Int.reducePow] at hn g0 ⊢; omega
  · have g0 := g 0 (by decide)
    have g1 := g 1 (by decide)
    simp only [Nat.sub_zero, Nat.reduceSub, Int.reducePow] at hn g0 g1 ⊢; omega
  · have g0 := g 0 (by decide)
    have g1 := g 1 (by decide)
    have g2 := g 2 (by decide)
    simp only [Nat.sub_zero, Nat.reduceSub, Int.reducePow] at hn g0 g1 g2 ⊢; omega
  · have g0 := g 0 (by decide)
    have g1 := g 1 (by decide)
    have g2 := g 2 (by decide)
    have g3 := g 3 (by decide)
    simp only [Nat.sub_zero, Nat.reduceSub, Int.reducePow] at hn g0 g1 g2 g3 ⊢; omega
  · have g0 := g 0 (by decide)
    have g1 := g 1 (by decide)
    have g2 := g 2 (by decide)
    have g3 := g 3 (by decide)
    have g4 := g 4 (by decide)
    simp only [Nat.sub_zero, Nat.reduceSub, Int.reducePow] at hn g0 g1 g2 g3 g4 ⊢; omega
  · have g0 := g 0 (by decide)
    have g1 := g 1 (by decide)
    have g2 := g 2 (by decide)
    have g3 := g 3 (by decide)
    have g4 := g 4 (by decide)
    have g5 := g 5 (by decide)
    simp only [Nat.sub_zero, Nat.reduceSub, Int.reducePow] at hn g0 g1 g2 g3 g4 g5 ⊢; omega
  · have g0 := g 0 (by decide)
    have g1 := g 1 (by decide)
    have g2 := g 2 (by decide)
    have g3 := g 3 (by decide)
    have g4 := g 4 (by decide)
    have g5 := g 5 (by decide)
    have g6 := g 6 (by decide)
    simp only [Nat.sub_zero, Nat.sub_self, Nat.reduceSub, Int.reducePow, Int.pow_zero, Int.ediv_one] at hn g0 g1 g2 g3 g4 g5 g6 ⊢; omega

theorem bytes_before (A B : List Int) (hA : Byt A) (hB : Byt B) (n : Nat) (hn : n ≤ 104) (h : ∀ j : Nat, j < n → bitB A (j : Int) = bitB B (j : Int)) (k : Nat) (hk : 8 * k + 8 ≤ n) : A.getD k 0 = B.getD k 0 :=
  byte_eq _ _ (hA.2 k) (hB.2 k) fun j hj => by
    have := h (8 * k + j) (by omega)
    rwa [bit_in A k j (by omega) hj, bit_in B k j (by omega) hj] at this

theorem less_bit (A B : List Int) (hA : Byt A) (hB : Byt B) (n : Nat) (hn : n < 104) (h : ∀ j : Nat, j < n → bitB A (j : Int) = bitB B (j : Int)) (hne : bitB A (n : Int) ≠ bitB B (n : Int)) : lessL A B = bitB B (n : Int) := by
  have e : n = 8 * (n / 8) + n % 8 := by omega
  have hA' := bit_in A (n / 8) (n % 8) (by omega) (by omega)
  have hB' := bit_in B (n / 8) (n % 8) (by omega) (by omega)
  rw [← e] at hA' hB'
  rw [hA', hB'] at hne
  obtain ⟨h1, h2⟩ := byte_lt _ _ (hA.2 (n / 8)) (hB.2 (n / 8)) (n % 8) (by omega) (fun l hl => by
    have := h (8 * (n / 8) + l) (by omega)
    rwa [bit_in A (n / 8) l (by omega) (by omega), bit_in B (n / 8) l (by omega) (by omega)] at this) hne
  rw [less_at A B hA.1 hB.1 (n / 8) (by omega) (fun j hj => bytes_before A B hA hB n (by omega) h j (by omega)) h1, h2, hB']
end Go.Proofs.Ytjlghkiplapodaa
