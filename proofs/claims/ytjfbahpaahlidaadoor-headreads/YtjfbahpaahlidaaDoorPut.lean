import Derived.Test.YtjfbahpaahlidaaDoorFlip
import Derived.Laws.BitsLemmas
namespace Go.Proofs.YtjfbahpaahlidaaDoor
open Go Go.RowKit

/-- The header behind the first k stores of 'put'. -/
def putN (L : List Int) (at0 size : Nat) (v : Int) : Nat → List Int
  | 0 => L
  | k + 1 => (putN L at0 size v k).set (at0 + k) (v / 2 ^ (8 * (size - 1 - k)) % 256)
theorem putN_length (L : List Int) (at0 size : Nat) (v : Int) (k : Nat) : (putN L at0 size v k).length = L.length := by
  induction k with
  | zero => rfl
  | succ k ih => simp [putN, ih]

abbrev zero26 : Array Value := #[.int .u8 0, .int .u8 0, .int .u8 0, .int .u8 0, .int .u8 0, .int .u8 0, .int .u8 0, .int .u8 0, .int .u8 0, .int .u8 0, .int .u8 0, .int .u8 0, .int .u8 0]

set_option maxHeartbeats 1000000 in
theorem put_any (L : List Int) (hL : L.length = 13) (at0 size : Nat) (v : Int) (w : World) (hs : at0 + size ≤ 13) (hs4 : size ≤ 4) (_hv0 : 0 ≤ v) (_hv1 : v < 4294967296) :
    Calls Tryd.prog 28 #[.agg (hv L), .int .i64 at0, .int .i64 size, .int .u32 v] w fun e w' => e = .returned (.agg (hv (putN L at0 size v size))) ∧ Below w.heap.size w w' := by
  go_enter Tryd.func28, Tryd.ntmps28
  go_wp2
  go_loopw [11] (fun i wr => ∃ k : Nat, k ≤ size ∧ i = .int .i64 k ∧ wr = (w.alloc (.cells (hv (putN L at0 size v k)) 26)).alloc (.cells zero26 26)) (fun i _ => size - (intOf i).toNat)
  case atStart => exact ⟨0, Nat.zero_le _, rfl, rfl⟩
  case round =>
    obtain ⟨k, hk, rfl, rfl⟩ := hrel
    have hlen := putN_length L at0 size v k
    by_cases hlt : k < size
    · have hc := hv_at (putN L at0 size v k) (by omega) (at0 + k) (by omega)
      go_wp2
      go_roundw
      case rel => exact ⟨k + 1, by omega, by go_num, by rw [hv_set]; rfl⟩
      case measure => simp [intOf]; omega
    · obtain rfl : k = size := by omega
      go_wp2_with (first
        | (refine wl_load26 rfl _ rfl w.heap.size rfl (putN L at0 k v k) (heap_past _ _ _ _ (heap_new _ _ _ rfl)) (by omega) ?_)
        | (refine wl_store26 rfl _ _ rfl (w.heap.size + 1) (putN L at0 k v k) rfl rfl _ (heap_new _ _ _ (by simp)) rfl (by omega) _ (setRow_new _ _ _ _ _ (by simp)) ?_))
      refine ret26 (p := 8) rfl rfl (w.heap.size + 1) rfl (putN L at0 k v k) (by omega) (heap_new _ _ _ (by simp)) ⟨rfl, ?_⟩
      exact ((Below.refl _ _).alloc (Nat.le_refl _) _).alloc (by simp) _

theorem or_byte (a b : Int) (ha0 : 0 ≤ a) (ha : a < 16777216) (hb0 : 0 ≤ b) (hb : b < 256) : bits .or .u32 (a * 256 % 4294967296) (b % 4294967296) = a * 256 + b := by
  rw [show a * 256 % 4294967296 = a * 256 by omega, show b % 4294967296 = b by omega]
  exact bits_join .u32 32 (by decide) (fun n h0 h1 => by rw [IntKind.wrap_u32]; omega) 8 (a * 256) b (by omega) (by omega) (by omega) hb0 (by omega) (by omega)

/-- The number that the first k bytes behind 'at0' make. -/
def getN (L : List Int) (at0 : Nat) : Nat → Int
  | 0 => 0
  | k + 1 => getN L at0 k * 256 + L.getD (at0 + k) 0
theorem getN_bd (L : List Int) (hL : Byt L) (at0 : Nat) (k : Nat) : 0 ≤ getN L at0 k ∧ getN L at0 k < 256 ^ k := by
  induction k with
  | zero => simp [getN]
  | succ k ih =>
    have := hL.2 (at0 + k)
    simp only [getN, Int.pow_succ]
    omega

set_option maxHeartbeats 1000000 in
theorem get_any (L : List Int) (hL : Byt L) (at0 size : Nat) (w : World) (hs : at0 + size ≤ 13) (hs4 : size ≤ 4) :
    Calls Tryd.prog 29 #[.agg (hv L), .int .i64 at0, .int .i64 size] w fun e w' => e = .returned (.int .u32 (getN L at0 size)) ∧ w' = w.alloc (.cells (hv L) 26) := by
  have hl := hL.1
  go_enter Tryd.func29, Tryd.ntmps29
  go_wp2
  go_loop [7, 10] (fun v i => ∃ k : Nat, k ≤ size ∧ i = .int .i64 k ∧ v = .int .u32 (getN L at0 k)) (fun _ i => size - (intOf i).toNat)
  case atStart => exact ⟨0, Nat.zero_le _, rfl, rfl⟩
  case round =>
    obtain ⟨k, hk, rfl, rfl⟩ := hrel
    have hb := getN_bd L hL at0 k
    by_cases hlt : k < size
    · have hc := hv_at L hl (at0 + k) (by omega)
      have hx := hL.2 (at0 + k)
      go_wp2
      go_round
      case rel =>
        refine ⟨k + 1, by omega, by go_num, ?_⟩
        have h24 : getN L at0 k < 16777216 := by
          have : (256 : Int) ^ k ≤ 256 ^ 3 := by
            rcases (show k = 0 ∨ k = 1 ∨ k = 2 ∨ k = 3 by omega) with h | h | h | h <;> subst h <;> decide
          have h2 : (256 : Int) ^ 3 = 16777216 := by decide
          omega
        have he := or_byte (getN L at0 k) (L.getD (at0 + k) 0) hb.1 h24 hx.1 hx.2
        rw [show L[at0 + k]?.getD 0 = L.getD (at0 + k) 0 from rfl, he]
        rfl
      case measure => simp [intOf]; omega
    · obtain rfl : k = size := by omega
      go_wp2
      go_ret
      exact ⟨rfl, rfl⟩
end Go.Proofs.YtjfbahpaahlidaaDoor
