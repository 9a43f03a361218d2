import Derived.Test.YtplnlmkmaapbaaaDoorRefPut2
import Derived.Laws.BitsLemmas
namespace Go.Proofs.YtplnlmkmaapbaaaDoor
open Go Go.RowKit

/-- The header behind the first k stores of 'put'. -/
def putN (L : List Int) (at0 size : Nat) (v : Int) : Nat → List Int
  | 0 => L
  | k + 1 => (putN L at0 size v k).set (at0 + k) (v / 2 ^ (8 * (size - 1 - k)) % 256)
theorem putN_length (L : List Int) (at0 size : Nat) (v : Int) (k : Nat) : (putN L at0 size v k).length = L.length := by
  induction k with
  | zero => rfl
  | succ k ih => simp [putN, ih]


set_option maxHeartbeats 1000000 in
theorem put_any (L : List Int) (hL : L.length = 13) (at0 size : Nat) (v : Int) (w : World) (hs : at0 + size ≤ 13) (hs4 : size ≤ 4) (_hv0 : 0 ≤ v) (_hv1 : v < 4294967296) :
    Calls Tryd.prog 40 #[.agg (hv L), .int .i64 at0, .int .i64 size, .int .u32 v] w fun e w' => e = .returned (.agg (hv (putN L at0 size v size))) ∧ Below w.heap.size w w' := by
  go_enter Tryd.func40, Tryd.ntmps40
  go_wp2
  go_loopw [11] (fun i wr => ∃ k : Nat, k ≤ size ∧ i = .int .i64 k ∧ wr = (w.alloc (.cells (hv (putN L at0 size v k)) 23)).alloc (.cells zero26 23)) (fun i _ => size - (intOf i).toNat)
  case atStart => exact ⟨0, Nat.zero_le _, rfl, rfl⟩
  case round =>
    obtain ⟨k, hk, rfl, rfl⟩ := hrel
    have hlen := putN_length L at0 size v k
    by_cases hlt : k < size
    · have hc := hv_at (putN L at0 size v k) (by omega) (at0 + k) (by omega)
      go_wp2
      go_roundw
      case rel => exact ⟨k + 1, by omega, by go_num, by rw [hv_set]; rfl⟩
      case measure => simp [intOf]; omega
    · obtain rfl : k = size := by omega
      go_wp2_with (first
        | (refine wl_load26 rfl _ rfl w.heap.size rfl (putN L at0 k v k) (heap_past _ _ _ _ (heap_new _ _ _ rfl)) (by omega) ?_)
        | (refine wl_store26 rfl _ _ rfl (w.heap.size + 1) (putN L at0 k v k) rfl rfl _ (heap_new _ _ _ (by simp)) rfl (by omega) _ (setRow_new _ _ _ _ _ (by simp)) ?_))
      refine ret26 (p := 8) rfl rfl (w.heap.size + 1) rfl (putN L at0 k v k) (by omega) (heap_new _ _ _ (by simp)) ⟨rfl, ?_⟩
      exact ((Below.refl _ _).alloc (Nat.le_refl _) _).alloc (by simp) _

theorem or_byte (a b : Int) (ha0 : 0 ≤ a) (ha : a < 16777216) (hb0 : 0 ≤ b) (hb : b < 256) : bits .or .u32 (a * 256 % 4294967296) (b % 4294967296) = a * 256 + b := by
  rw [show a * 256 % 4294967296 = a * 256 by omega, show b % 4294967296 = b by omega]
  exact bits_join .u32 32 (by decide) (fun n h0 h1 => by rw [IntKind.wrap_u32]; omega) 8 (a * 256) b (by omega) (by omega) (by omega) hb0 (by omega) (by omega)

/-- The number that the first k bytes behind 'at0' make. -/
def getN (L : List Int) (at0 : Nat) : Nat → Int
  | 0 => 0
  | k + 1 => getN L at0 k * 256 + L.getD (at0 + k) 0
theorem getN_bd (L : List Int) (hL : Byt L) (at0 : Nat) (k : Nat) : 0 ≤ getN L at0 k ∧ getN L at0 k < 256 ^ k := by
  induction k with
  | zero => simp [getN]
  | succ k ih =>
    have := hL.2 (at0 + k)
    simp only [getN, Int.pow_succ]
    omega

end Go.Proofs.YtplnlmkmaapbaaaDoor
