import Derived.Test.YtplnlmkmaapbaaaDoorHRefWith
import Derived.Test.YtplnlmkmaapbaaaDoorSpIn
namespace Go.Proofs.YtplnlmkmaapbaaaDoor
open Go Go.RowKit

theorem hbit_in (A : List Int) (k j : Nat) (hk : k < 13) (hj : j < 8) : bitB A ((8 * k + j : Nat) : Int) = (A.getD k 0 / 2 ^ (7 - j) % 2 == 1) := by
  unfold bitB byteAt
  rw [decide_eq_true (by omega), Bool.true_and, show (((8 * k + j : Nat) : Int) / 8).toNat = k by omega, show (7 - ((8 * k + j : Nat) : Int) % 8).toNat = 7 - j by omega]

theorem hbyte_eq (x y : Int) (hx : 0 ≤ x ∧ x < 256) (hy : 0 ≤ y ∧ y < 256) (h : ∀ j, j < 8 → (x / 2 ^ (7 - j) % 2 == 1) = (y / 2 ^ (7 - j) % 2 == 1)) : x = y := by
  have g : ∀ j, j < 8 → x / 2 ^ (7 - j) % 2 = y / 2 ^ (7 - j) % 2 := fun j hj => by
    have := h j hj
    rw [Bool.eq_iff_iff, beq_iff_eq, beq_iff_eq] at this
    have a1 : x / 2 ^ (7 - j) % 2 = 0 ∨ x / 2 ^ (7 - j) % 2 = 1 := by omega
    have a2 : y / 2 ^ (7 - j) % 2 = 0 ∨ y / 2 ^ (7 - j) % 2 = 1 := by omega
    omega
  have g0 := g 0 (by decide)
  have g1 := g 1 (by decide)
  have g2 := g 2 (by decide)
  have g3 := g 3 (by decide)
  have g4 := g 4 (by decide)
  have g5 := g 5 (by decide)
  have g6 := g 6 (by decide)
  have g7 := g 7 (by decide)
  simp only [Nat.sub_zero, Nat.reduceSub, Int.reducePow, Int.pow_zero, Int.ediv_one] at g0 g1 g2 g3 g4 g5 g6 g7
  omega
set_option maxHeartbeats 400000 in
theorem refWith_no (L : List Int) (f v : Int) (w : World) (hf : f < 0 ∨ 5 ≤ f) :
    Calls Tryd.prog 22 #[.agg (hv L), .int .i64 f, .int .u32 v] w fun e w' => e = .returned (.tuple #[.agg (hv Z13), .int .i64 1]) ∧ Below w.heap.size w w' := by
  go_enter Tryd.func22, Tryd.ntmps22
  go_wp2_with (first
    | (go_at_call 25; refine (first_no _ _ hf).mono ?_; rintro e w' ⟨rfl, rfl⟩)
    | (refine wl_store26 rfl _ _ rfl (w.heap.size + 1) Z13 rfl rfl _ (heap_new _ _ _ (by simp)) rfl rfl _ (setRow_new _ _ _ _ _ (by simp)) ?_))
  refine ret26e (p := 6) (u := 7) rfl rfl (w.heap.size + 1) rfl Z13 rfl (heap_new _ _ _ (by simp)) _ rfl ⟨rfl, ?_⟩
  exact ((Below.refl _ _).alloc (Nat.le_refl _) _).alloc (by simp) _

/-- The byte of a number that lies in the header's bytes, and so its bits. -/
theorem getN_byte (L : List Int) (hL : Byt L) (at0 : Nat) : ∀ (s m : Nat), m < s → getN L at0 s / 2 ^ (8 * (s - 1 - m)) % 256 = L.getD (at0 + m) 0
  | 0, _, h => by omega
  | s + 1, m, h => by
    have hb := hL.2 (at0 + s)
    by_cases e : m = s
    · subst e
      simp only [getN, Nat.add_sub_cancel, Nat.sub_self, Nat.mul_zero, Int.pow_zero, Int.ediv_one]
      omega
    · have ih := getN_byte L hL at0 s m (by omega)
      have e1 : 8 * (s + 1 - 1 - m) = 8 + 8 * (s - 1 - m) := by omega
      rw [e1, Int.pow_add, ← Int.ediv_ediv_of_nonneg (by decide)]
      have e2 : getN L at0 (s + 1) / 2 ^ 8 = getN L at0 s := by
        simp only [getN]
        omega
      rw [e2]; exact ih

theorem bit_of_byte (g : Int) (t j : Nat) (hj : j < 8) : g / 2 ^ (8 * t) % 256 / 2 ^ (7 - j) % 2 = g / 2 ^ (8 * t + (7 - j)) % 2 := by
  rw [Int.pow_add, ← Int.ediv_ediv_of_nonneg (Int.pow_nonneg (by decide))]
  generalize g / 2 ^ (8 * t) = y
  rcases (show j = 0 ∨ j = 1 ∨ j = 2 ∨ j = 3 ∨ j = 4 ∨ j = 5 ∨ j = 6 ∨ j = 7 by omega) with e | e | e | e | e | e | e | e <;> subst e <;> simp only [Nat.sub_zero, Nat.sub_self, Nat.reduceSub, Int.reducePow, Int.pow_zero, Int.ediv_one] <;> omega

theorem getN_bit (L : List Int) (hL : Byt L) (at0 size i : Nat) (hs : at0 + size ≤ 13) (hi : i < 8 * size) :
    bitB L ((8 * at0 + i : Nat) : Int) = (getN L at0 size / 2 ^ (8 * size - 1 - i) % 2 == 1) := by
  have e : 8 * at0 + i = 8 * (at0 + i / 8) + i % 8 := by omega
  rw [e, hbit_in L (at0 + i / 8) (i % 8) (by omega) (by omega), ← getN_byte L hL at0 size (i / 8) (by omega), bit_of_byte _ _ _ (by omega), show 8 * (size - 1 - i / 8) + (7 - i % 8) = 8 * size - 1 - i by omega]

theorem getN_half (g : Int) (W i : Nat) (hi : i < W) : g / 2 ^ (W - i) * 2 + g / 2 ^ (W - 1 - i) % 2 = g / 2 ^ (W - 1 - i) := by
  have e : W - i = (W - 1 - i) + 1 := by omega
  rw [e, Int.pow_succ, ← Int.ediv_ediv_of_nonneg (Int.pow_nonneg (by decide))]
  generalize g / 2 ^ (W - 1 - i) = y
  omega

set_option maxHeartbeats 2000000 in
theorem refField_core (L : List Int) (hL : Byt L) (f : Int) (at0 size : Nat) (w : World) (hs : at0 + size ≤ 13) (hs4 : size ≤ 4)
    (c17 : ∀ W, Calls Tryd.prog 25 #[.int .i64 f] W fun e w' => e = .returned (.int .i64 ((8 * at0 : Nat) : Int)) ∧ w' = W)
    (c18 : ∀ W, Calls Tryd.prog 26 #[.int .i64 f] W fun e w' => e = .returned (.int .i64 ((8 * size : Nat) : Int)) ∧ w' = W) :
    Calls Tryd.prog 11 #[.agg (hv L), .int .i64 f] w fun e w' => e = .returned (.tuple #[.int .u32 (getN L at0 size), .int .i64 0]) ∧ Below w.heap.size w w' := by
  have hl := hL.1
  have hg := getN_bd L hL at0 size
  have hg32 : getN L at0 size < 4294967296 := by
    have : (256 : Int) ^ size ≤ 4294967296 := by
      rcases (show size = 0 ∨ size = 1 ∨ size = 2 ∨ size = 3 ∨ size = 4 by omega) with h | h | h | h | h <;> subst h <;> decide
    omega
  obtain ⟨F, hF⟩ : ∃ F : Nat, F = 8 * at0 := ⟨_, rfl⟩
  obtain ⟨Wd, hW⟩ : ∃ Wd : Nat, Wd = 8 * size := ⟨_, rfl⟩
  obtain ⟨g, hgg⟩ : ∃ g : Int, g = getN L at0 size := ⟨_, rfl⟩
  have hbit : ∀ i : Nat, i < Wd → bitB L ((F : Int) + (i : Int)) = (g / 2 ^ (Wd - 1 - i) % 2 == 1) := fun i hi => by
    rw [hF, hW, hgg]
    have := getN_bit L hL at0 size i hs (by omega)
    rw [← this]; congr 1
  rw [← hF] at c17
  rw [← hW] at c18
  rw [← hgg] at hg hg32 ⊢
  have hW32 : Wd ≤ 32 := by omega
  have hF104 : F + Wd ≤ 104 := by omega
  have hgW : g < 2 ^ Wd := by
    rw [hW, Int.pow_mul]; exact hg.2
  have hg0 := hg.1
  have K17 : Hid _ := c17
  have K18 : Hid _ := c18
  have HBIT : Hid _ := hbit
  have HGW : Hid (g < 2 ^ Wd) := hgW
  have HG : Hid (g < 4294967296) := hg32
  clear c17 c18 hbit hgW hg32 hg hF hW hgg hs hs4
  go_enter Tryd.func11, Tryd.ntmps11
  go_wp2_with (first
    | (go_at_call 25; refine (K17.out _).mono ?_; rintro e w' ⟨rfl, rfl⟩))
  go_loopw [6, 7] (fun x i wr => ∃ k : Nat, k ≤ Wd ∧ i = .int .i64 (k : Int) ∧ x = .int .u32 (g / 2 ^ (Wd - k)) ∧ wr.heap[w.heap.size]? = some (.cells (hv L) 23 (0, 0)) ∧ Below w.heap.size w wr) (fun _ i _ => Wd - (intOf i).toNat)
  case atStart =>
    refine ⟨0, Nat.zero_le _, rfl, ?_, heap_new _ _ _ rfl, (Below.refl _ _).alloc (Nat.le_refl _) _⟩
    rw [Nat.sub_zero, Int.ediv_eq_zero_of_lt hg0 HGW.out]
  case round =>
    obtain ⟨k, hk, rfl, rfl, g1, hbw⟩ := hrel
    by_cases hlt : k < Wd
    · have hy0 : 0 ≤ g / 2 ^ (Wd - k) := Int.ediv_nonneg hg0 (Int.pow_nonneg (by decide))
      have hz0 : 0 ≤ g / 2 ^ (Wd - 1 - k) := Int.ediv_nonneg hg0 (Int.pow_nonneg (by decide))
      have hz1 : g / 2 ^ (Wd - 1 - k) ≤ g := Int.ediv_le_self _ hg0
      have hh := getN_half g Wd k hlt
      have hG := HG.out
      obtain ⟨y, hy⟩ : ∃ y : Int, y = g / 2 ^ (Wd - k) := ⟨_, rfl⟩
      obtain ⟨z, hz⟩ : ∃ z : Int, z = g / 2 ^ (Wd - 1 - k) := ⟨_, rfl⟩
      rw [← hy, ← hz] at hh
      rw [← hz] at hz0 hz1
      rw [← hy] at hy0 ⊢
      have hb := HBIT.out k hlt
      rw [← hz] at hb
      have cb := refBit_any L hL ((F : Int) + (k : Int))
      rw [hb] at cb
      have HZ : Hid (z = g / 2 ^ (Wd - 1 - k)) := hz
      have HH : Hid (y * 2 + z % 2 = z) := hh
      have hy1 : y * 2 ≤ 4294967295 := by omega
      have ne1 := Later.ne wr
      rcases (show z % 2 = 1 ∨ z % 2 = 0 by omega) with hm | hm
      · have hy2 : y * 2 + 1 ≤ 4294967295 := by omega
        rw [hm, show ((1 : Int) == 1) = true from rfl] at cb
        have HM : Hid (z % 2 = 1) := hm
        clear hy hz hb hG hh hm
        have CB : Hid _ := cb
        clear cb
        go_wp2_with (first
          | (go_at_call 26; refine (K18.out _).mono ?_; rintro e w' ⟨rfl, rfl⟩))
        refine wp_region_later (by kernel_rfl) (by kernel_rfl) ?_
        refine qlH rfl _ rfl w.heap.size rfl L g1 hl ?_
        simp only [Act.put, List.setIfInBounds_toArray, List.set_cons_succ, List.set_cons_zero]
        go_big_quiet_step (fail)
        go_big_quiet_want; go_big_quiet_op
        refine ⟨_, fun u => Calls.later_same (K17.out u.world), ?_⟩
        go_big_quiet_on
        go_big_quiet_step (fail)
        go_big_quiet_step (fail)
        go_big_quiet_want; go_big_quiet_op
        refine ⟨_, fun u => Calls.later_of (CB.out u.world), ?_⟩
        go_big_quiet_on
        refine wpQuiet_nil ?_
        rintro w2 ⟨u, rfl⟩
        go_wp2_with fail
        go_roundw
        case rel =>
          refine ⟨k + 1, by omega, by go_num, ?_, later_block g1 _ ⟨u, rfl⟩, hbw.trans (u.below.mono hbw.size)⟩
          rw [show Wd - (k + 1) = Wd - 1 - k by omega, ← HZ.out]
          congr 1
          have := HH.out
          have := HM.out
          omega
        case measure => simp [intOf]; omega
      · rw [hm, show ((0 : Int) == 1) = false from rfl] at cb
        have HM : Hid (z % 2 = 0) := hm
        clear hy hz hb hG hh hm
        have CB : Hid _ := cb
        clear cb
        go_wp2_with (first
          | (go_at_call 26; refine (K18.out _).mono ?_; rintro e w' ⟨rfl, rfl⟩))
        refine wp_region_later (by kernel_rfl) (by kernel_rfl) ?_
        refine qlH rfl _ rfl w.heap.size rfl L g1 hl ?_
        simp only [Act.put, List.setIfInBounds_toArray, List.set_cons_succ, List.set_cons_zero]
        go_big_quiet_step (fail)
        go_big_quiet_want; go_big_quiet_op
        refine ⟨_, fun u => Calls.later_same (K17.out u.world), ?_⟩
        go_big_quiet_on
        go_big_quiet_step (fail)
        go_big_quiet_step (fail)
        go_big_quiet_want; go_big_quiet_op
        refine ⟨_, fun u => Calls.later_of (CB.out u.world), ?_⟩
        go_big_quiet_on
        refine wpQuiet_nil ?_
        rintro w2 ⟨u, rfl⟩
        go_wp2_with fail
        go_roundw
        case rel =>
          refine ⟨k + 1, by omega, by go_num, ?_, later_block g1 _ ⟨u, rfl⟩, hbw.trans (u.below.mono hbw.size)⟩
          rw [show Wd - (k + 1) = Wd - 1 - k by omega, ← HZ.out]
          congr 1
          have := HH.out
          have := HM.out
          omega
        case measure => simp [intOf]; omega
    · obtain rfl : k = Wd := by omega
      go_wp2_with (first
        | (go_at_call 26; refine (K18.out _).mono ?_; rintro e w' ⟨rfl, rfl⟩))
      go_ret2
      exact ⟨rfl, hbw⟩
end Go.Proofs.YtplnlmkmaapbaaaDoor
