import Derived.Test.YthekoeinnillpabFree
namespace Go.Proofs.Ythekoeinnillpab
open Go Go.RowKit

/-- The letter of a bit. -/
def letter (V M : List Int) (i : Nat) : UInt8 := if bt M i then (if bt V i then 49 else 48) else 42
def txt (V M : List Int) : List UInt8 := (List.range 104).map (letter V M)

/-- Bytes as cells. -/
def bv (L : List UInt8) : Array Value := (L.map fun b => Value.int .u8 (b.toNat : Int)).toArray

theorem bv_size (L : List UInt8) : (bv L).size = L.length := by simp [bv]
theorem bv_at (L : List UInt8) (k : Nat) (hk : k < L.length) : (bv L)[k]? = some (.int .u8 ((L.getD k 0).toNat : Int)) := by
  unfold bv
  simp [List.getElem?_eq_getElem hk, List.getD]
theorem bv_set (L : List UInt8) (k : Nat) (b : UInt8) : (bv L).setIfInBounds k (.int .u8 (b.toNat : Int)) = bv (L.set k b) := by
  unfold bv
  rw [List.setIfInBounds_toArray, ← List.map_set]
theorem zero56 (w : World) : (zeroValue 48).run Try.prog w = .ok (.agg (bv (List.replicate 104 0))) w := by kernel_rfl

theorem bset_getD (L : List UInt8) (j k : Nat) (v : UInt8) (hj : j < L.length) : (L.set j v).getD k 0 = if j = k then v else L.getD k 0 := by
  simp only [List.getD, List.getElem?_set]
  by_cases h : j = k
  · subst h; simp [hj]
  · simp [h]

theorem text_step (V M : List Int) (L : List UInt8) (k : Nat) (hL : L.length = 104) (hk : k < 104) (h : ∀ j, j < k → L.getD j 0 = letter V M j) (b : UInt8) (hb : b = letter V M k) : ∀ j, j < k + 1 → (L.set k b).getD j 0 = letter V M j := fun j hj => by
  rw [bset_getD _ _ _ _ (by omega)]
  by_cases e : k = j
  · subst e; rw [if_pos rfl, hb]
  · rw [if_neg e]; exact h j (by omega)

set_option maxHeartbeats 2000000 in
theorem text_any (V M : List Int) (hV : Byt V) (hM : Byt M) (w : World) :
    Calls Try.prog 10 #[.agg (cv V M)] w fun e w' => e = .returned (.string ⟨(txt V M).toArray⟩) ∧ Below w.heap.size w w' := by
  have hVl := hV.1
  have hMl := hM.1
  have BV : Hid (∀ i : Nat, i < 104 → ∀ W, Calls Try.prog 21 #[.agg (hv V), .int .i64 (i : Int)] W fun e w' => e = .returned (.bool (bt V i)) ∧ Below W.heap.size W w') := fun i hi => hbit_nat V hV i hi
  have BM : Hid (∀ i : Nat, i < 104 → ∀ W, Calls Try.prog 21 #[.agg (hv M), .int .i64 (i : Int)] W fun e w' => e = .returned (.bool (bt M i)) ∧ Below W.heap.size W w') := fun i hi => hbit_nat M hM i hi
  clear hV hM
  obtain ⟨L0, hL0⟩ : ∃ L : List UInt8, L = List.replicate 104 0 := ⟨_, rfl⟩
  have hz56 : ∀ w, (zeroValue 48).run Try.prog w = .ok (.agg (bv L0)) w := fun w => by rw [hL0]; exact zero56 w
  have hL0l : L0.length = 104 := by rw [hL0, List.length_replicate]
  clear hL0
  go_enter Try.func10, Try.ntmps10
  go_wp2_with fail
  go_loopw [5] (fun i wr => ∃ k : Nat, k ≤ 104 ∧ i = .int .i64 k ∧ ∃ L : List UInt8, L.length = 104 ∧ (∀ j, j < k → L.getD j 0 = letter V M j) ∧ wr.heap[w.heap.size]? = some (.cells (cv V M) 25 (0, 0)) ∧ wr.heap[w.heap.size + 1]? = some (.cells (bv L) 48 (0, 0)) ∧ Below w.heap.size w wr) (fun i _ => 104 - (intOf i).toNat)
  case atStart => exact ⟨0, Nat.zero_le _, rfl, L0, hL0l, fun j hj => by omega, heap_past _ _ _ _ (heap_new _ _ _ rfl), heap_new _ _ _ (by simp), ((Below.refl _ _).alloc (Nat.le_refl _) _).alloc (by simp) _⟩
  case round =>
    clear hz56 hL0l
    obtain ⟨k, hk, rfl, L, hL, hj, g0, g1, hb⟩ := hrel
    have HJ : Hid (∀ j, j < k → L.getD j 0 = letter V M j) := hj
    clear hj
    have hz := (Array.getElem?_eq_some_iff.1 g1).1
    by_cases hlt : k < 104
    · go_wp2_with (first
        | (refine wl_loadM rfl _ rfl w.heap.size rfl V M g0 hVl hMl ?_))
      refine (BM.out k hlt _).mono ?_
      rintro e w1 ⟨rfl, hb1⟩
      have k0 : w1.heap[w.heap.size]? = some (.cells (cv V M) 25 (0, 0)) := by rw [hb1.block _ (by omega)]; exact g0
      have k1 : w1.heap[w.heap.size + 1]? = some (.cells (bv L) 48 (0, 0)) := by rw [hb1.block _ (by omega)]; exact g1
      have hB1 := hb.trans (hb1.mono hb.size)
      have hz1 := Nat.lt_of_lt_of_le hz hb1.size
      clear g0 g1 hb hb1
      have cx : w1.cell? ⟨w.heap.size + 1, k, none⟩ = some (.int .u8 ((L.getD k 0).toNat : Int)) := by rw [cell_of_row w1 _ _ _ _ _ k1]; exact bv_at L k (by omega)
      have cf : w1.frozen? ⟨w.heap.size + 1, k, none⟩ = false := frozen_of_row w1 _ _ _ _ k1
      by_cases hm : bt M k = true
      · rw [hm]
        have HM : Hid (bt M k = true) := hm
        clear hm
        go_wp2_with (first
          | (refine wl_loadV rfl _ rfl w.heap.size rfl V M k0 hVl ?_))
        refine (BV.out k hlt _).mono ?_
        rintro e w2 ⟨rfl, hb2⟩
        have l0 : w2.heap[w.heap.size]? = some (.cells (cv V M) 25 (0, 0)) := by rw [hb2.block _ (by omega)]; exact k0
        have l1 : w2.heap[w.heap.size + 1]? = some (.cells (bv L) 48 (0, 0)) := by rw [hb2.block _ (by omega)]; exact k1
        have hB2 := hB1.trans (hb2.mono hB1.size)
        clear k0 k1 hB1 hb2 cx cf
        have cx : w2.cell? ⟨w.heap.size + 1, k, none⟩ = some (.int .u8 ((L.getD k 0).toNat : Int)) := by rw [cell_of_row w2 _ _ _ _ _ l1]; exact bv_at L k (by omega)
        have cf : w2.frozen? ⟨w.heap.size + 1, k, none⟩ = false := frozen_of_row w2 _ _ _ _ l1
        by_cases hv1 : bt V k = true
        · rw [hv1]
          have HV : Hid (bt V k = true) := hv1
          clear hv1
          go_wp2_with fail
          go_roundw
          case rel =>
            refine ⟨k + 1, by omega, by go_num, L.set k 49, by rw [List.length_set]; exact hL, text_step V M L k hL hlt HJ.out 49 (by unfold letter; rw [HM.out, HV.out]; rfl), ?_, ?_, ?_⟩
            · exact (heap_setCell_other w2 ⟨w.heap.size + 1, k, none⟩ w.heap.size _ (by simp)).trans l0
            · rw [← bv_set]; exact heap_setCell_same w2 _ _ _ _ _ l1
            · exact hB2.setCell (by simp) _
          case measure => simp [intOf]; omega
        · have hv2 : bt V k = false := by simpa using hv1
          rw [hv2]
          have HV : Hid (bt V k = false) := hv2
          clear hv1 hv2
          go_wp2_with fail
          go_roundw
          case rel =>
            refine ⟨k + 1, by omega, by go_num, L.set k 48, by rw [List.length_set]; exact hL, text_step V M L k hL hlt HJ.out 48 (by unfold letter; rw [HM.out, HV.out]; rfl), ?_, ?_, ?_⟩
            · exact (heap_setCell_other w2 ⟨w.heap.size + 1, k, none⟩ w.heap.size _ (by simp)).trans l0
            · rw [← bv_set]; exact heap_setCell_same w2 _ _ _ _ _ l1
            · exact hB2.setCell (by simp) _
          case measure => simp [intOf]; omega
      · have hm2 : bt M k = false := by simpa using hm
        rw [hm2]
        have HM : Hid (bt M k = false) := hm2
        clear hm hm2
        go_wp2_with fail
        go_roundw
        case rel =>
          refine ⟨k + 1, by omega, by go_num, L.set k 42, by rw [List.length_set]; exact hL, text_step V M L k hL hlt HJ.out 42 (by unfold letter; rw [HM.out]; rfl), ?_, ?_, ?_⟩
          · exact (heap_setCell_other w1 ⟨w.heap.size + 1, k, none⟩ w.heap.size _ (by simp)).trans k0
          · rw [← bv_set]; exact heap_setCell_same w1 _ _ _ _ _ k1
          · exact hB1.setCell (by simp) _
        case measure => simp [intOf]; omega
    · obtain rfl : k = 104 := by omega
      have hLt : L = txt V M := by
        apply List.ext_getElem (by simp [txt, hL])
        intro j h1 h2
        have := HJ.out j (by omega)
        simpa [List.getD, h1, txt] using this
      have hcv : (convert 49 9 (.slice (some ⟨w.heap.size + 1, 0, none⟩) 104 104)).run Try.prog wr = .ok (.string ⟨(txt V M).toArray⟩) wr := by
        have := run_convert_bytes_back wr 49 9 5 ⟨w.heap.size + 1, 0, none⟩ 104 (txt V M) Try.underlying49 Try.underlying5 Try.underlying9 (fun j hj => by
          have hadd : (⟨w.heap.size + 1, 0, none⟩ : Addr).add j = ⟨w.heap.size + 1, j, none⟩ := by unfold Addr.add; split <;> simp_all
          rw [hadd, cell_of_row wr _ j (bv L) _ (0, 0) g1, hLt, bv_at _ j hj]
          simp [List.getD, hj])
        rwa [show (txt V M).length = 104 by rw [← hLt]; exact hL] at this
      clear HJ g0 hLt
      go_wp2_with fail
      go_ret
      exact ⟨rfl, hb⟩
end Go.Proofs.Ythekoeinnillpab
