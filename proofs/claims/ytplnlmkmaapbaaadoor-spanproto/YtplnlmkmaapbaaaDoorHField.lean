import Derived.Test.YtplnlmkmaapbaaaDoorHRefField
namespace Go.Proofs.YtplnlmkmaapbaaaDoor
open Go Go.RowKit

set_option maxHeartbeats 400000 in
theorem refField_no (L : List Int) (f : Int) (w : World) (hf : f < 0 ∨ 5 ≤ f) :
    Calls Tryd.prog 11 #[.agg (hv L), .int .i64 f] w fun e w' => e = .returned (.tuple #[.int .u32 0, .int .i64 1]) ∧ Below w.heap.size w w' := by
  go_enter Tryd.func11, Tryd.ntmps11
  go_wp2_with (go_at_call 25; refine (first_no _ _ hf).mono ?_; rintro e w' ⟨rfl, rfl⟩)
  go_ret2
  exact ⟨rfl, (Below.refl _ _).alloc (Nat.le_refl _) _⟩

theorem first_at (f : Int) (h0 : 0 ≤ f) (h1 : f < 5) (W : World) : Calls Tryd.prog 25 #[.int .i64 f] W fun e w' => e = .returned (.int .i64 ((8 * atOf f : Nat) : Int)) ∧ w' = W := by
  have h := first_in f W h0 h1
  rw [(place_facts f h0 h1).1] at h
  rw [Int.natCast_mul]; exact h
theorem width_at (f : Int) (h0 : 0 ≤ f) (h1 : f < 5) (W : World) : Calls Tryd.prog 26 #[.int .i64 f] W fun e w' => e = .returned (.int .i64 ((8 * sizeOfF f : Nat) : Int)) ∧ w' = W := by
  have h := width_in f W h0 h1
  rw [(place_facts f h0 h1).2.1] at h
  rw [Int.natCast_mul]; exact h

theorem refField_ok (L : List Int) (hL : Byt L) (f : Int) (w : World) (h0 : 0 ≤ f) (h1 : f < 5) :
    Calls Tryd.prog 11 #[.agg (hv L), .int .i64 f] w fun e w' => e = .returned (.tuple #[.int .u32 (getN L (atOf f) (sizeOfF f)), .int .i64 0]) ∧ Below w.heap.size w w' := by
  obtain ⟨_, _, a1, a2, _⟩ := place_facts f h0 h1
  exact refField_core L hL f (atOf f) (sizeOfF f) w a1 a2 (first_at f h0 h1) (width_at f h0 h1)

theorem putN_at (L : List Int) (at0 size : Nat) (v : Int) : ∀ n, at0 + n ≤ L.length → ∀ k, (putN L at0 size v n).getD k 0 = if at0 ≤ k ∧ k < at0 + n then v / 2 ^ (8 * (size - 1 - (k - at0))) % 256 else L.getD k 0
  | 0, _, k => by rw [if_neg (by omega)]; rfl
  | n + 1, h, k => by
    show ((putN L at0 size v n).set (at0 + n) _).getD k 0 = _
    rw [getD_set _ _ _ _ (by rw [putN_length]; omega)]
    by_cases e : at0 + n = k
    · rw [if_pos e, if_pos (by omega), show k - at0 = n by omega]
    · rw [if_neg e, putN_at L at0 size v n (by omega) k]
      by_cases e2 : at0 ≤ k ∧ k < at0 + n
      · rw [if_pos e2, if_pos (by omega)]
      · rw [if_neg e2, if_neg (by omega)]
theorem putN_byt (L : List Int) (hL : Byt L) (at0 size : Nat) (v : Int) (hs : at0 + size ≤ 13) : Byt (putN L at0 size v size) := by
  refine ⟨by rw [putN_length]; exact hL.1, fun k => ?_⟩
  rw [putN_at L at0 size v size (by rw [hL.1]; exact hs) k]
  split
  · exact ⟨Int.emod_nonneg _ (by decide), Int.emod_lt_of_pos _ (by decide)⟩
  · exact hL.2 k

theorem head_ext (A B : List Int) (hA : Byt A) (hB : Byt B) (h : ∀ k : Nat, k < 104 → bitB A (k : Int) = bitB B (k : Int)) : A = B :=
  bt_ext A B hA hB fun i hi => by rw [← bitB_bt A i hi, ← bitB_bt B i hi]; exact h i hi

theorem withB_put (L : List Int) (hL : Byt L) (at0 size v : Nat) (hs : at0 + size ≤ 13) : withB L (8 * at0) (8 * size) v (8 * size) = putN L at0 size (v : Int) size := by
  obtain ⟨h1, h2⟩ := withB_bit L hL (8 * at0) (8 * size) v (by omega) (8 * size) (by omega)
  refine head_ext _ _ h1 (putN_byt L hL at0 size v hs) fun k hk => ?_
  rw [h2 k hk]
  have e : k = 8 * (k / 8) + k % 8 := by omega
  have hb := hbit_in (putN L at0 size (v : Int) size) (k / 8) (k % 8) (by omega) (by omega)
  rw [← e, putN_at L at0 size v size (by rw [hL.1]; exact hs)] at hb
  rw [hb]
  by_cases c : 8 * at0 + 8 * size - 8 * size ≤ k ∧ k < 8 * at0 + 8 * size
  · rw [if_pos c, if_pos (by omega), bit_of_byte _ _ _ (by omega), show 8 * (size - 1 - (k / 8 - at0)) + (7 - k % 8) = 8 * at0 + 8 * size - 1 - k by omega, Bool.eq_iff_iff, beq_iff_eq, beq_iff_eq]
    have hc : (v : Int) / 2 ^ (8 * at0 + 8 * size - 1 - k) = ((v / 2 ^ (8 * at0 + 8 * size - 1 - k) : Nat) : Int) := by simp
    rw [hc]; omega
  · rw [if_neg c, if_neg (by omega)]
    have hb2 := hbit_in L (k / 8) (k % 8) (by omega) (by omega)
    rw [← e] at hb2
    exact hb2

theorem refWith_ok (L : List Int) (hL : Byt L) (f v : Int) (w : World) (h0 : 0 ≤ f) (h1 : f < 5) (hv0 : 0 ≤ v) (hv1 : v < 4294967296) (hvw : v < 2 ^ (8 * sizeOfF f)) :
    Calls Tryd.prog 22 #[.agg (hv L), .int .i64 f, .int .u32 v] w fun e w' => e = .returned (.tuple #[.agg (hv (putN L (atOf f) (sizeOfF f) v (sizeOfF f))), .int .i64 0]) ∧ Below w.heap.size w w' := by
  obtain ⟨n, rfl⟩ := Int.eq_ofNat_of_zero_le hv0
  obtain ⟨_, _, a1, a2, a3⟩ := place_facts f h0 h1
  refine (refWith_core L hL f (8 * atOf f) (8 * sizeOfF f) n w (by omega) (by omega) (by omega) (first_at f h0 h1) (width_at f h0 h1)).mono fun e w' h => ⟨?_, h.2.2⟩
  rw [h.1 (by exact_mod_cast hvw), withB_put L hL _ _ _ a1]
theorem refWith_big (L : List Int) (hL : Byt L) (f v : Int) (w : World) (h0 : 0 ≤ f) (h1 : f < 5) (hv0 : 0 ≤ v) (hv1 : v < 4294967296) (hvw : ¬ v < 2 ^ (8 * sizeOfF f)) :
    Calls Tryd.prog 22 #[.agg (hv L), .int .i64 f, .int .u32 v] w fun e w' => e = .returned (.tuple #[.agg (hv Z13), .int .i64 10]) ∧ Below w.heap.size w w' := by
  obtain ⟨n, rfl⟩ := Int.eq_ofNat_of_zero_le hv0
  obtain ⟨_, _, a1, a2, a3⟩ := place_facts f h0 h1
  refine (refWith_core L hL f (8 * atOf f) (8 * sizeOfF f) n w (by omega) (by omega) (by omega) (first_at f h0 h1) (width_at f h0 h1)).mono fun e w' h => ⟨?_, h.2.2⟩
  exact h.2.1 (fun h => hvw (by exact_mod_cast h))
end Go.Proofs.YtplnlmkmaapbaaaDoor
