import Derived.Test.YtfbphblodankmaaFlipMath
namespace Go.Proofs.Ytfbphblodankmaa
open Go Go.RowKit
set_option maxRecDepth 20000

abbrev zero26 : Array Value := #[.int .u8 0, .int .u8 0, .int .u8 0, .int .u8 0, .int .u8 0, .int .u8 0, .int .u8 0, .int .u8 0, .int .u8 0, .int .u8 0, .int .u8 0, .int .u8 0, .int .u8 0]

/-- The header with a bit set as the reference sets it. -/
def setB (L : List Int) (i : Int) (b : Bool) : List Int :=
  if bitB L i = b then L else if b then L.set (i / 8).toNat (byteAt L i + 128 / 2 ^ (i % 8).toNat) else L.set (i / 8).toNat (byteAt L i - 128 / 2 ^ (i % 8).toNat)

set_option maxRecDepth 100000 in
theorem up_fin : ∀ x : Fin 256, ∀ j : Fin 8, ((x.val : Int) / 2 ^ (7 - j.val) % 2 == 1) = false → (x.val : Int) + 128 / 2 ^ j.val < 256 ∧ ∀ k : Fin 8, (((x.val : Int) + 128 / 2 ^ j.val) / 2 ^ (7 - k.val) % 2 == 1) = if k = j then true else ((x.val : Int) / 2 ^ (7 - k.val) % 2 == 1) := by decide +kernel
set_option maxRecDepth 100000 in
theorem down_fin : ∀ x : Fin 256, ∀ j : Fin 8, ((x.val : Int) / 2 ^ (7 - j.val) % 2 == 1) = true → 0 ≤ (x.val : Int) - 128 / 2 ^ j.val ∧ ∀ k : Fin 8, (((x.val : Int) - 128 / 2 ^ j.val) / 2 ^ (7 - k.val) % 2 == 1) = if k = j then false else ((x.val : Int) / 2 ^ (7 - k.val) % 2 == 1) := by decide +kernel

theorem up_byte (x i : Int) (hx : 0 ≤ x ∧ x < 256) (h : (x / 2 ^ (7 - i % 8).toNat % 2 == 1) = false) : x + 128 / 2 ^ (i % 8).toNat < 256 ∧ ∀ k : Int, ((x + 128 / 2 ^ (i % 8).toNat) / 2 ^ (7 - k % 8).toNat % 2 == 1) = if k % 8 = i % 8 then true else (x / 2 ^ (7 - k % 8).toNat % 2 == 1) := by
  have hh := up_fin ⟨x.toNat, by omega⟩ ⟨(i % 8).toNat, by omega⟩
  simp only [show ((x.toNat : Nat) : Int) = x by omega, show 7 - (i % 8).toNat = (7 - i % 8).toNat by omega] at hh
  obtain ⟨h1, h2⟩ := hh h
  refine ⟨h1, fun k => ?_⟩
  have h3 := h2 ⟨(k % 8).toNat, by omega⟩
  simp only [Fin.mk.injEq, show 7 - (k % 8).toNat = (7 - k % 8).toNat by omega] at h3
  rw [h3]
  by_cases e : k % 8 = i % 8
  · rw [if_pos (by rw [e]), if_pos e]
  · rw [if_neg (by omega), if_neg e]
theorem down_byte (x i : Int) (hx : 0 ≤ x ∧ x < 256) (h : (x / 2 ^ (7 - i % 8).toNat % 2 == 1) = true) : 0 ≤ x - 128 / 2 ^ (i % 8).toNat ∧ ∀ k : Int, ((x - 128 / 2 ^ (i % 8).toNat) / 2 ^ (7 - k % 8).toNat % 2 == 1) = if k % 8 = i % 8 then false else (x / 2 ^ (7 - k % 8).toNat % 2 == 1) := by
  have hh := down_fin ⟨x.toNat, by omega⟩ ⟨(i % 8).toNat, by omega⟩
  simp only [show ((x.toNat : Nat) : Int) = x by omega, show 7 - (i % 8).toNat = (7 - i % 8).toNat by omega] at hh
  obtain ⟨h1, h2⟩ := hh h
  refine ⟨h1, fun k => ?_⟩
  have h3 := h2 ⟨(k % 8).toNat, by omega⟩
  simp only [Fin.mk.injEq, show 7 - (k % 8).toNat = (7 - k % 8).toNat by omega] at h3
  rw [h3]
  by_cases e : k % 8 = i % 8
  · rw [if_pos (by rw [e]), if_pos e]
  · rw [if_neg (by omega), if_neg e]
theorem sieve_pos (i : Int) : 0 ≤ (128 : Int) / 2 ^ (i % 8).toNat ∧ (128 : Int) / 2 ^ (i % 8).toNat ≤ 128 := by
  have : ∀ j : Fin 8, 0 ≤ (128 : Int) / 2 ^ j.val ∧ (128 : Int) / 2 ^ j.val ≤ 128 := by decide
  exact this ⟨(i % 8).toNat, by omega⟩

theorem bitB_in (L : List Int) (i : Int) (h0 : 0 ≤ i) (h1 : i < 104) : bitB L i = (byteAt L i / 2 ^ (7 - i % 8).toNat % 2 == 1) := by
  unfold bitB; rw [decide_eq_true ⟨h0, h1⟩, Bool.true_and]

theorem setB_bit (L : List Int) (hL : Byt L) (i : Int) (b : Bool) (h0 : 0 ≤ i) (h1 : i < 104) :
    Byt (setB L i b) ∧ ∀ k, 0 ≤ k → k < 104 → bitB (setB L i b) k = if k = i then b else bitB L k := by
  have hlt : (i / 8).toNat < L.length := by rw [hL.1]; omega
  have hx : 0 ≤ byteAt L i ∧ byteAt L i < 256 := hL.2 _
  have hs := sieve_pos i
  by_cases e : bitB L i = b
  · have es : setB L i b = L := by unfold setB; rw [if_pos e]
    rw [es]
    refine ⟨hL, fun k _ _ => ?_⟩
    by_cases ek : k = i
    · rw [if_pos ek, ek, e]
    · rw [if_neg ek]
  · cases b
    · have hbt : (byteAt L i / 2 ^ (7 - i % 8).toNat % 2 == 1) = true := by
        rw [← bitB_in L i h0 h1]; cases h : bitB L i
        · exact absurd h e
        · rfl
      have es : setB L i false = L.set (i / 8).toNat (byteAt L i - 128 / 2 ^ (i % 8).toNat) := by unfold setB; rw [if_neg e]; rfl
      obtain ⟨g1, g2⟩ := down_byte _ i hx hbt
      rw [es]
      refine ⟨⟨by rw [List.length_set]; exact hL.1, fun k => ?_⟩, fun k hk0 hk1 => ?_⟩
      · rw [getD_set _ _ _ _ hlt]; split
        · omega
        · exact hL.2 k
      · rw [bitB_in _ k hk0 hk1, bitB_in _ k hk0 hk1]
        unfold byteAt
        rw [getD_set _ _ _ _ hlt]
        by_cases ek : (i / 8).toNat = (k / 8).toNat
        · rw [if_pos ek]
          have g3 := g2 k
          unfold byteAt at g3
          rw [g3, ek]
          by_cases e2 : k = i
          · rw [if_pos e2, if_pos (by rw [e2])]
          · rw [if_neg e2, if_neg (by omega)]
        · rw [if_neg ek, if_neg (by rintro rfl; exact ek rfl)]
    · have hbt : (byteAt L i / 2 ^ (7 - i % 8).toNat % 2 == 1) = false := by
        rw [← bitB_in L i h0 h1]; cases h : bitB L i
        · rfl
        · exact absurd h e
      have es : setB L i true = L.set (i / 8).toNat (byteAt L i + 128 / 2 ^ (i % 8).toNat) := by unfold setB; rw [if_neg e]; rfl
      obtain ⟨g1, g2⟩ := up_byte _ i hx hbt
      rw [es]
      refine ⟨⟨by rw [List.length_set]; exact hL.1, fun k => ?_⟩, fun k hk0 hk1 => ?_⟩
      · rw [getD_set _ _ _ _ hlt]; split
        · omega
        · exact hL.2 k
      · rw [bitB_in _ k hk0 hk1, bitB_in _ k hk0 hk1]
        unfold byteAt
        rw [getD_set _ _ _ _ hlt]
        by_cases ek : (i / 8).toNat = (k / 8).toNat
        · rw [if_pos ek]
          have g3 := g2 k
          unfold byteAt at g3
          rw [g3, ek]
          by_cases e2 : k = i
          · rw [if_pos e2, if_pos (by rw [e2])]
          · rw [if_neg e2, if_neg (by omega)]
        · rw [if_neg ek, if_neg (by rintro rfl; exact ek rfl)]
end Go.Proofs.Ytfbphblodankmaa
