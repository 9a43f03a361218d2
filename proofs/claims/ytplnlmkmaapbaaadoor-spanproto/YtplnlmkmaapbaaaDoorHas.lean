import Derived.Test.YtplnlmkmaapbaaaDoorCanon
namespace Go.Proofs.YtplnlmkmaapbaaaDoor
open Go Go.RowKit

/-- Does a cube have a header? -/
def has (V M H : List Int) : Bool := (List.range 104).all fun i => !(bt M i) || (bt V i == bt H i)
theorem has_iff (V M H : List Int) : has V M H = true ↔ ∀ i, i < 104 → bt M i = true → bt V i = bt H i := by
  unfold has
  simp only [List.all_eq_true, List.mem_range, Bool.or_eq_true, Bool.not_eq_true', beq_iff_eq]
  constructor
  · intro h i hi hm
    rcases h i hi with h' | h'
    · rw [h'] at hm; cases hm
    · exact h'
  · intro h i hi
    cases hm : bt M i
    · exact .inl rfl
    · exact .inr (h i hi hm)

theorem has_byte (v h m : Int) (hv : 0 ≤ v ∧ v < 256) (hh : 0 ≤ h ∧ h < 256) (hm : 0 ≤ m ∧ m < 256) : bits .and .u8 (bits .xor .u8 v h) m = 0 ↔ ∀ j, j < 8 → yb m j = true → yb v j = yb h j := by
  rw [zero_byte _ (bits_u8 _ _ _)]
  constructor
  · intro g j hj hmj
    have := g j hj
    rw [and_yb _ _ (bits_u8 _ _ _) hm, xor_yb _ _ hv hh, hmj] at this
    simpa using this
  · intro g j hj
    rw [and_yb _ _ (bits_u8 _ _ _) hm, xor_yb _ _ hv hh]
    cases hmj : yb m j
    · simp
    · rw [g j hj hmj]; simp

theorem has_all (V M H : List Int) (hV : Byt V) (hM : Byt M) (hH : Byt H) (h : ∀ k, k < 13 → bits .and .u8 (bits .xor .u8 (V.getD k 0) (H.getD k 0)) (M.getD k 0) = 0) : has V M H = true :=
  (has_iff V M H).2 fun i hi hm => (has_byte _ _ _ (hV.2 _) (hH.2 _) (hM.2 _)).1 (h (i / 8) (by omega)) (i % 8) (by omega) hm
theorem has_not (V M H : List Int) (hV : Byt V) (hM : Byt M) (hH : Byt H) (k : Nat) (hk : k < 13) (h : bits .and .u8 (bits .xor .u8 (V.getD k 0) (H.getD k 0)) (M.getD k 0) ≠ 0) : has V M H = false := by
  cases e : has V M H
  · rfl
  · refine absurd ((has_byte _ _ _ (hV.2 _) (hH.2 _) (hM.2 _)).2 fun j hj hm => ?_) h
    have := (has_iff V M H).1 e (8 * k + j) (by omega)
    unfold bt at this
    rw [show (8 * k + j) / 8 = k by omega, show (8 * k + j) % 8 = j by omega] at this
    exact this hm

set_option maxHeartbeats 1000000 in
theorem has_any (V M H : List Int) (hV : Byt V) (hM : Byt M) (hH : Byt H) (w : World) :
    Calls Tryd.prog 15 #[.agg (cv V M), .agg (hv H)] w fun e w' => e = .returned (.bool (has V M H)) ∧ Below w.heap.size w w' := by
  have hVl := hV.1
  have hMl := hM.1
  have hHl := hH.1
  have HV : Hid (Byt V) := hV
  have HM : Hid (Byt M) := hM
  have HH : Hid (Byt H) := hH
  clear hV hM hH
  go_enter Tryd.func15, Tryd.ntmps15
  go_wp2
  go_loopw [6] (fun i wr => ∃ k : Nat, k ≤ 13 ∧ i = .int .i64 k ∧ (∀ j, j < k → bits .and .u8 (bits .xor .u8 (V.getD j 0) (H.getD j 0)) (M.getD j 0) = 0) ∧ wr.heap[w.heap.size]? = some (.cells (cv V M) 37 (0, 0)) ∧ wr.heap[w.heap.size + 1]? = some (.cells (hv H) 23 (0, 0)) ∧ Below w.heap.size w wr) (fun i _ => 13 - (intOf i).toNat)
  case atStart => exact ⟨0, Nat.zero_le _, rfl, fun j hj => by omega, heap_past _ _ _ _ (heap_new _ _ _ rfl), heap_new _ _ _ (by simp), ((Below.refl _ _).alloc (Nat.le_refl _) _).alloc (by simp) _⟩
  case round =>
    obtain ⟨k, hk, rfl, hUj, g0, g1, hb⟩ := hrel
    by_cases hlt : k < 13
    · obtain ⟨x, hx, hxe⟩ : ∃ x, (cv V M)[k]? = some (.int .u8 x) ∧ x = V.getD k 0 := ⟨_, cv_val V M hVl k hlt, rfl⟩
      obtain ⟨y, hy, hye⟩ : ∃ y, (cv V M)[13 + k]? = some (.int .u8 y) ∧ y = M.getD k 0 := ⟨_, cv_mask V M hVl hMl k hlt, rfl⟩
      obtain ⟨z, hz, hze⟩ : ∃ z, (hv H)[k]? = some (.int .u8 z) ∧ z = H.getD k 0 := ⟨_, hv_at H hHl k hlt, rfl⟩
      have hx0 := later_cell g0 hx
      have hy0 := later_cell g0 hy
      have hz0 := later_cell g1 hz
      have HUJ : Hid (∀ j, j < k → bits .and .u8 (bits .xor .u8 (V.getD j 0) (H.getD j 0)) (M.getD j 0) = 0) := hUj
      have HX : Hid (x = V.getD k 0) := hxe
      have HY : Hid (y = M.getD k 0) := hye
      have HZ : Hid (z = H.getD k 0) := hze
      have ne1 := Later.ne wr
      clear hUj hxe hye hx hy hz hze
      by_cases hc : bits .and .u8 (bits .xor .u8 x z) y = 0
      · have HC : Hid (bits .and .u8 (bits .xor .u8 x z) y = 0) := hc
        have hne : (bits .and .u8 (bits .xor .u8 x z) y != 0) = false := by simp [hc]
        clear hc
        go_wp2_with fail
        refine wp_region_later (by kernel_rfl) (by kernel_rfl) ?_
        repeat go_big_quiet_step (fail)
        refine wpQuiet_nil ?_
        rintro w' ⟨u, rfl⟩
        go_wp2_with fail
        go_roundw
        case rel =>
          refine ⟨k + 1, by omega, by go_num, fun j hj => ?_, later_block g0 _ ⟨u, rfl⟩, later_block g1 _ ⟨u, rfl⟩, hb.trans (u.below.mono hb.size)⟩
          by_cases e : j = k
          · subst e; rw [← HX.out, ← HY.out, ← HZ.out]; exact HC.out
          · exact HUJ.out j (by omega)
        case measure => simp [intOf]; omega
      · have HC : Hid (¬ bits .and .u8 (bits .xor .u8 x z) y = 0) := hc
        have hne : (bits .and .u8 (bits .xor .u8 x z) y != 0) = true := by simp [hc]
        clear hc
        go_wp2_with fail
        refine wp_region_later (by kernel_rfl) (by kernel_rfl) ?_
        repeat go_big_quiet_step (fail)
        refine wpQuiet_nil ?_
        rintro w' ⟨u, rfl⟩
        go_wp2_with fail
        go_ret
        refine ⟨ret_bool ?_, hb.trans (u.below.mono hb.size)⟩
        have hn := HC.out
        rw [HX.out, HY.out, HZ.out] at hn
        rw [has_not V M H HV.out HM.out HH.out k hlt hn]
    · obtain rfl : k = 13 := by omega
      have HUJ : Hid (∀ j, j < 13 → bits .and .u8 (bits .xor .u8 (V.getD j 0) (H.getD j 0)) (M.getD j 0) = 0) := hUj
      clear hUj
      go_wp2_with fail
      go_ret
      exact ⟨ret_bool (has_all V M H HV.out HM.out HH.out HUJ.out).symm, hb⟩
end Go.Proofs.YtplnlmkmaapbaaaDoor
