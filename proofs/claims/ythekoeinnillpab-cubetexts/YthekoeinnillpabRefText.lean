import Derived.Test.YthekoeinnillpabRefCanon
import Derived.OwnWalk
namespace Go.Proofs.Ythekoeinnillpab
open Go Go.RowKit

theorem info5 : ∃ i, Try.prog.info? 5 = some i ∧ i.zero = some (.int .u8 0) ∧ i.size = 1 ∧ i.bytes = 1 := by
  cases h : Try.prog.info? 5 with
  | none => exact absurd (show (Try.prog.info? 5).isSome = true by kernel_rfl) (by rw [h]; simp)
  | some i =>
    have h1 : (Try.prog.info? 5).map (fun i => (i.zero, i.size, i.bytes)) = some (some (.int .u8 0), 1, 1) := by kernel_rfl
    rw [h] at h1
    simp only [Option.map_some, Option.some.injEq, Prod.mk.injEq] at h1
    exact ⟨i, rfl, h1.1, h1.2.1, h1.2.2⟩

theorem txt_take (V M : List Int) (k : Nat) (hk : k < 104) : (txt V M).take (k + 1) = (txt V M).take k ++ [letter V M k] := by
  rw [List.take_succ_eq_append_getElem (by rw [txt_length]; exact hk)]
  simp [txt]
theorem bv_snoc (L : List UInt8) (b : UInt8) : (bv (L ++ [b])).toList = (bv L).toList ++ [.int .u8 (b.toNat : Int)] := by simp [bv]
theorem letter_at (V M : List Int) (k : Nat) : (atI V M k = 0 ∧ letter V M k = 48) ∨ (atI V M k = 1 ∧ letter V M k = 49) ∨ (atI V M k = 2 ∧ letter V M k = 42) := by
  unfold atI letter
  cases bt M k <;> cases bt V k <;> simp
theorem one_new (w : World) (b : UInt8) (t : TypeId) : ∀ j u, [Value.int .u8 (b.toNat : Int)][j]? = some u → (w.alloc (.cells #[.int .u8 (b.toNat : Int)] t)).cell? ((⟨w.heap.size, 0, none⟩ : Addr).add j) = some u := fun j u hu =>
  cells_new w #[.int .u8 (b.toNat : Int)] t j u (by simpa using hu)

set_option maxHeartbeats 4000000 in
theorem rtext_any (V M : List Int) (hV : Byt V) (hM : Byt M) (w : World) :
    Calls Try.prog 13 #[.agg (cv V M)] w fun e w' => e = .returned (.string ⟨(txt V M).toArray⟩) ∧ Below w.heap.size w w' := by
  have hVl := hV.1
  have hMl := hM.1
  have CA : Hid (∀ k : Nat, k < 104 → ∀ W, Calls Try.prog 23 #[.agg (cv V M), .int .i64 (k : Int)] W fun e w' => e = .returned (.int .i64 (atI V M k)) ∧ Below W.heap.size W w') := fun k hk => at_any V M hV hM k hk
  clear hV hM
  go_enter Try.func13, Try.ntmps13
  go_wp2_with fail
  go_loopw [3, 4] (fun v i wr => ∃ k : Nat, k ≤ 104 ∧ i = .int .i64 k ∧ wr.ownsRow (w.heap.size + 1) 5 1 v k (bv ((txt V M).take k)).toList ∧ wr.heap[w.heap.size]? = some (.cells (cv V M) 25 (0, 0)) ∧ Below w.heap.size w wr) (fun _ i _ => 104 - (intOf i).toNat)
  case atStart =>
    refine ⟨0, Nat.zero_le _, rfl, ?_, heap_past _ _ _ _ (heap_new _ _ _ rfl), ((Below.refl _ _).alloc (Nat.le_refl _) _).alloc (by simp) _⟩
    exact ⟨rfl, Or.inr ⟨w.heap.size + 1, 0, #[], rfl, Nat.le_refl _, heap_new _ _ _ (by simp), Nat.le_refl _, by decide, rfl, rfl⟩⟩
  case round =>
    obtain ⟨k, hk, rfl, hown, g0, hb⟩ := hrel
    have hz := (Array.getElem?_eq_some_iff.1 g0).1
    have OWN : Hid (wr.ownsRow (w.heap.size + 1) 5 1 u3 k (bv ((txt V M).take k)).toList) := hown
    clear hown
    by_cases hlt : k < 104
    · go_wp2_with (first
        | (refine wl_loadC rfl _ rfl w.heap.size rfl V M g0 hVl hMl ?_))
      refine (CA.out k hlt _).mono ?_
      rintro e w1 ⟨rfl, hb1⟩
      have k0 : w1.heap[w.heap.size]? = some (.cells (cv V M) 25 (0, 0)) := by rw [hb1.block _ (by omega)]; exact g0
      have B1 := hb.trans (hb1.mono hb.size)
      have hown1 := own_below OWN.out hb1
      have hz1 := Nat.lt_of_lt_of_le hz hb1.size
      clear g0 hb hb1 OWN hz
      obtain ⟨i0, hi, hz0', hz1', hz2'⟩ := info5
      have hB2 : ∀ g, u3.ownBlock = some g → w.heap.size + 1 ≤ g := fun g hg => (hown1.lt _ hg).1
      obtain ⟨b, hbe, x, hx, hxe⟩ : ∃ b : UInt8, b = letter V M k ∧ ∃ x : Int, x = atI V M k ∧ ((x = 0 ∧ b = 48) ∨ (x = 1 ∧ b = 49) ∨ (x = 2 ∧ b = 42)) := ⟨_, rfl, _, rfl, letter_at V M k⟩
      rw [← hx]
      have HB : Hid (b = letter V M k) := hbe
      clear hbe hx
      have hco : ∀ u ∈ [Value.int .u8 (b.toNat : Int)], u.oneCell' = true := fun u hu => by simp at hu; subst hu; rfl
      rcases hxe with ⟨rfl, rfl⟩ | ⟨rfl, rfl⟩ | ⟨rfl, rfl⟩
      all_goals
        go_wp2_with (first | (at_builtin; refine of_stopped ?_))
        unfold Stopped
        refine wpList_append_own _ rfl _ _ 49 rfl (w.heap.size + 1) 5 i0 (.int .u8 0) 1 1 Try.underlying49 hi hz0' hz1' hz2' rfl (by decide) _ _ _ rfl (hown1.alloc _) ⟨w1.heap.size, 0, none⟩ 1 1 _ rfl rfl (one_new w1 _ _) hco (by unfold maxLen; omega) (by omega) (by simp; omega) ?_
        intro v' w7 hown' hgrow7 hnil7
        have p0 : w7.heap[w.heap.size]? = some (.cells (cv V M) 25 (0, 0)) := by
          rw [hgrow7.block _ (by simp; omega) (fun h => by have := hB2 _ h.symm; omega)]; exact heap_past _ _ _ _ k0
        have B2 : Below w.heap.size w w7 := (B1.alloc (by omega) _).grown hgrow7 (by simp; omega) (fun g hg => by have := hB2 g hg; omega)
        have OWN7 : Hid (w7.ownsRow (w.heap.size + 1) 5 1 v' (k + 1) (bv ((txt V M).take (k + 1))).toList) := by
          show World.ownsRow _ _ _ _ _ _ _
          rw [txt_take V M k hlt, ← HB.out]
          rw [bv_snoc]; exact hown'
        clear hown' hgrow7 hnil7 hown1 hB2 hco k0 B1 hi hz0' hz1' hz2' hz1
        simp only [Act.put, List.setIfInBounds_toArray, List.set_cons_succ, List.set_cons_zero]
        go_wp2_with fail
        go_roundw
        case rel => exact ⟨k + 1, by omega, by go_num, OWN7.out, p0, B2⟩
        case measure => simp [intOf]; omega
    · obtain rfl : k = 104 := by omega
      have hown := OWN.out
      rw [List.take_of_length_le (by rw [txt_length]; exact Nat.le_refl _)] at hown
      obtain ⟨_, ⟨rfl, h0⟩ | ⟨g, cap, cur, rfl, hB, hcur, h1, h2, h3, h4⟩⟩ := hown
      · omega
      have hcv : (convert 49 9 (.slice (some ⟨g, 0, none⟩) 104 cap)).run Try.prog wr = .ok (.string ⟨(txt V M).toArray⟩) wr := by
        have := run_convert_bytes_back wr 49 9 5 ⟨g, 0, none⟩ cap (txt V M) Try.underlying49 Try.underlying5 Try.underlying9 (fun j hj => by
          have hadd : (⟨g, 0, none⟩ : Addr).add j = ⟨g, j, none⟩ := by unfold Addr.add; split <;> simp_all
          rw [txt_length] at hj
          rw [hadd, cell_of_row wr g j cur 5 (0, 0) hcur]
          have h5 : (cur.toList.take (104 * 1))[j]? = (bv (txt V M)).toList[j]? := by rw [h4]
          rw [List.getElem?_take_of_lt (by omega)] at h5
          rw [← Array.getElem?_toList, h5, Array.getElem?_toList, bv_at _ j (by rw [txt_length]; exact hj)]
          simp [List.getD, txt_length, hj])
        rwa [txt_length] at this
      clear hcur h4 OWN
      go_wp2_with fail
      go_ret
      exact ⟨rfl, hb⟩
end Go.Proofs.Ythekoeinnillpab
