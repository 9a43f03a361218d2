import Derived.Test.YtplnlmkmaapbaaaDoorBase
import Derived.StillTailTactics
namespace Go.Proofs.YtplnlmkmaapbaaaDoor
open Go Go.RowKit

theorem isBit_yes (i : Int) (w : World) (h0 : 0 ≤ i) (h1 : i < 104) :
    Calls Tryd.prog 43 #[.int .i64 i] w fun e w' => e = .returned (.bool true) ∧ w' = w := by
  go_enter Tryd.func43, Tryd.ntmps43
  go_wp2
  go_ret
  exact ⟨ret_bool (by simp), rfl⟩
theorem isBit_no (i : Int) (w : World) (h : ¬ (0 ≤ i ∧ i < 104)) :
    Calls Tryd.prog 43 #[.int .i64 i] w fun e w' => e = .returned (.bool false) ∧ w' = w := by
  by_cases h0 : 0 ≤ i
  · have h1 : 104 ≤ i := by omega
    go_enter Tryd.func43, Tryd.ntmps43
    go_wp2
    go_ret
    exact ⟨ret_bool (by simp; omega), rfl⟩
  · go_enter Tryd.func43, Tryd.ntmps43
    go_wp2
    go_ret
    exact ⟨ret_bool (by simp), rfl⟩

theorem sieve_any (i : Int) (w : World) (h0 : 0 ≤ i) (h1 : i < 104) :
    Calls Tryd.prog 44 #[.int .i64 i] w fun e w' => e = .returned (.int .u8 (128 / 2 ^ (i % 8).toNat)) ∧ w' = w := by
  go_enter Tryd.func44, Tryd.ntmps44
  go_wp2
  go_ret
  exact ⟨rfl, rfl⟩

set_option maxRecDepth 100000 in
theorem and_fin : ∀ x : Fin 256, ∀ j : Fin 8, (bits .and .u8 (x.val : Int) (128 / 2 ^ j.val) != 0) = ((x.val : Int) / 2 ^ (7 - j.val) % 2 == 1) := by decide +kernel
set_option maxRecDepth 100000 in
theorem xor_fin : ∀ x : Fin 256, ∀ j : Fin 8, bits .xor .u8 (bits .xor .u8 (x.val : Int) (128 / 2 ^ j.val)) (128 / 2 ^ j.val) = (x.val : Int) ∧ bits .xor .u8 (x.val : Int) (128 / 2 ^ j.val) ≠ (x.val : Int) ∧ 0 ≤ bits .xor .u8 (x.val : Int) (128 / 2 ^ j.val) ∧ bits .xor .u8 (x.val : Int) (128 / 2 ^ j.val) < 256 := by decide +kernel
set_option maxRecDepth 100000 in
theorem turn_fin : ∀ x : Fin 256, ∀ j : Fin 8, ∀ k : Fin 8, (bits .xor .u8 (x.val : Int) (128 / 2 ^ j.val) / 2 ^ (7 - k.val) % 2 == 1) = (((x.val : Int) / 2 ^ (7 - k.val) % 2 == 1) != decide (j = k)) := by decide +kernel

theorem and_bit (x i : Int) (hb0 : 0 ≤ x) (hb1 : x < 256) : (bits .and .u8 x (128 / 2 ^ (i % 8).toNat) != 0) = (x / 2 ^ (7 - i % 8).toNat % 2 == 1) := by
  have h := and_fin ⟨x.toNat, by omega⟩ ⟨(i % 8).toNat, by omega⟩
  simp only [] at h
  rw [show ((x.toNat : Nat) : Int) = x by omega, show 7 - (i % 8).toNat = (7 - i % 8).toNat by omega] at h
  exact h

def byteAt (L : List Int) (i : Int) : Int := L.getD (i / 8).toNat 0
def bitB (L : List Int) (i : Int) : Bool := decide (0 ≤ i ∧ i < 104) && (byteAt L i / 2 ^ (7 - i % 8).toNat % 2 == 1)

set_option maxHeartbeats 400000 in
theorem refBit_any (L : List Int) (hL : Byt L) (i : Int) (w : World) :
    Calls Tryd.prog 27 #[.agg (hv L), .int .i64 i] w fun e w' => e = .returned (.bool (bitB L i)) ∧ Below w.heap.size w w' := by
  by_cases hin : 0 ≤ i ∧ i < 104
  · obtain ⟨h0, h1⟩ := hin
    obtain ⟨x, hx, hxe⟩ : ∃ x, (hv L)[(i / 8).toNat]? = some (.int .u8 x) ∧ x = byteAt L i := ⟨_, hv_at L hL.1 _ (by omega), rfl⟩
    have hb : 0 ≤ x ∧ x < 256 := by rw [hxe]; exact hL.2 _
    obtain ⟨hb0, hb1⟩ := hb
    have HX : Hid (x = byteAt L i) := hxe
    clear hxe
    go_enter Tryd.func27, Tryd.ntmps27
    go_wp2
    go_ret
    refine ⟨ret_bool ?_, (Below.refl _ _).alloc (Nat.le_refl _) _⟩
    rw [Int.tmod_eq_emod_of_nonneg (Int.ediv_nonneg hb0 (Int.pow_nonneg (by decide))), HX.out]
    simp [bitB, h0, h1]
  · by_cases h0 : i < 0
    · go_enter Tryd.func27, Tryd.ntmps27
      go_wp2
      go_ret
      exact ⟨ret_bool (by simp [bitB]; omega), (Below.refl _ _).alloc (Nat.le_refl _) _⟩
    · have h1 : 103 < i := by omega
      have h0' : 0 ≤ i := by omega
      go_enter Tryd.func27, Tryd.ntmps27
      go_wp2
      go_ret
      exact ⟨ret_bool (by simp [bitB]; omega), (Below.refl _ _).alloc (Nat.le_refl _) _⟩

set_option maxHeartbeats 400000 in
theorem bit_any (L : List Int) (hL : Byt L) (i : Int) (w : World) :
    Calls Tryd.prog 35 #[.agg (hv L), .int .i64 i] w fun e w' => e = .returned (.bool (bitB L i)) ∧ Below w.heap.size w w' := by
  by_cases hin : 0 ≤ i ∧ i < 104
  · obtain ⟨h0, h1⟩ := hin
    obtain ⟨x, hx, hxe⟩ : ∃ x, (hv L)[(i / 8).toNat]? = some (.int .u8 x) ∧ x = byteAt L i := ⟨_, hv_at L hL.1 _ (by omega), rfl⟩
    have hb : 0 ≤ x ∧ x < 256 := by rw [hxe]; exact hL.2 _
    obtain ⟨hb0, hb1⟩ := hb
    have HX : Hid (x = byteAt L i) := hxe
    clear hxe
    go_enter Tryd.func35, Tryd.ntmps35
    go_wp2
    go_quiet (first | (go_at_call 43; exact Calls.quiet_of_same (isBit_yes _ _ h0 h1)) | (go_at_call 44; exact Calls.quiet_of_same (sieve_any _ _ h0 h1)))
    go_wp2
    go_ret
    refine ⟨ret_bool ?_, below_drewN ((Below.refl _ _).alloc (Nat.le_refl _) _) _⟩
    rw [and_bit x i hb0 hb1, HX.out]
    simp [bitB, h0, h1]
  · go_enter Tryd.func35, Tryd.ntmps35
    go_wp2
    go_quiet (first | (go_at_call 43; exact Calls.quiet_of_same (isBit_no _ _ hin)))
    go_wp2
    go_ret
    exact ⟨ret_bool (by simp [bitB]; omega), below_drewN ((Below.refl _ _).alloc (Nat.le_refl _) _) _⟩

def flipL (L : List Int) (i : Int) : List Int := if 0 ≤ i ∧ i < 104 then L.set (i / 8).toNat (bits .xor .u8 (byteAt L i) (128 / 2 ^ (i % 8).toNat)) else L


end Go.Proofs.YtplnlmkmaapbaaaDoor
