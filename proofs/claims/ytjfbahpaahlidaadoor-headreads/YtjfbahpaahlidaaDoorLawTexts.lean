import Derived.Test.YtjfbahpaahlidaaDoorRefText
import Derived.Test.YtjfbahpaahlidaaDoorParse2
import Derived.Test.YtjfbahpaahlidaaDoorParseMath
namespace Go.Proofs.YtjfbahpaahlidaaDoor
open Go Go.RowKit

theorem txt_le (L : List Int) (hL : Byt L) : ∀ k, k ≤ 11 → (txt L k).length ≤ 6 * k
  | 0, _ => by simp [txt]
  | k + 1, h => by
    have ih := txt_le L hL k (by omega)
    have hd := dec_len _ (getN_small L hL k (by omega)).2
    simp only [txt, List.length_append]
    split <;> simp <;> omega

set_option maxHeartbeats 2000000 in
theorem lawTexts_any (L : List Int) (hL : Byt L) (w : World) (hT : Laid w) :
    Calls Tryd.prog 7 #[.agg (hv L)] w fun e w' => e = .returned (.bool true) ∧ Below w.heap.size w w' := by
  have hsz := hT.size
  have hl := hL.1
  have HT : Hid (Laid w) := hT
  obtain ⟨T, hTT⟩ : ∃ T, T = txt L 11 := ⟨_, rfl⟩
  have KT : Hid (∀ W, Laid W → Calls Tryd.prog 24 #[.agg (hv L)] W fun e w' => e = .returned (.string ⟨T.toArray⟩) ∧ Below W.heap.size W w') := fun W h => by
    rw [hTT]; exact text_any L hL W h.parts h.pow h.size
  have KR : Hid (∀ W, Calls Tryd.prog 26 #[.agg (hv L)] W fun e w' => e = .returned (.string ⟨T.toArray⟩) ∧ Below W.heap.size W w') := fun W => by
    rw [hTT]; exact refText_any L hL W
  have KP : Hid (∀ W, Laid W → Calls Tryd.prog 25 #[.string ⟨T.toArray⟩] W fun e w' => e = .returned (.tuple #[.agg (hv L), .int .i64 0]) ∧ Below W.heap.size W w') := fun W h => by
    refine (parse_any ⟨T.toArray⟩ W ?_ h.parts h.size).mono fun e w' ⟨h1, h2⟩ => ⟨?_, h2⟩
    · have := txt_le L hL 11 (by omega)
      rw [← hTT] at this
      unfold maxLen
      show T.toArray.size ≤ _
      rw [List.size_toArray]; omega
    · have e2 : parseB T 0 (-1) Z13 = some L := by rw [hTT]; exact parse_text L hL
      simp only [e2] at h1
      exact h1
  have e1 : ∀ w, (Op.equalIn 10000 26 (.agg (hv L)) (.agg (hv L))).run Tryd.prog w = .ok true w := fun w => by rw [eq26 L L hl hl]; simp
  have eg : ∀ op x y (xs ys : Array Value) w, (eqGuard op 26 x y (.agg xs) (.agg ys)).run Tryd.prog w = .ok () w := fun op x y xs ys w => run_eqGuard_agg w op 26 x y xs ys (by kernel_rfl)
  clear hT hTT
  go_enter Tryd.func7, Tryd.ntmps7
  go_wp2_with fail
  refine (awake_any _ (HT.out.later hsz ((Below.refl _ _).alloc (Nat.le_refl _) _))).mono ?_
  rintro e w1 ⟨rfl, hb1⟩
  have hz1 := hb1.size
  rw [World.size_alloc] at hz1
  have g1 : w1.heap[w.heap.size]? = some (.cells (hv L) 26 (0, 0)) := by rw [hb1.block _ (by simp)]; exact heap_new _ _ _ rfl
  have hB1 : Below w.heap.size w w1 := ((Below.refl _ _).alloc (Nat.le_refl _) _).trans (hb1.mono (by simp))
  clear hb1
  go_wp2_with (refine wl_load26 rfl _ rfl w.heap.size rfl L g1 hl ?_)
  refine (KT.out _ (HT.out.later hsz hB1)).mono ?_
  rintro e w2 ⟨rfl, hb2⟩
  have hz2 := hb2.size
  have g2 : w2.heap[w.heap.size]? = some (.cells (hv L) 26 (0, 0)) := by rw [hb2.block _ (by omega)]; exact g1
  have hB2 : Below w.heap.size w w2 := hB1.trans (hb2.mono (by omega))
  clear hb2 g1 hB1 KT
  go_wp2_with fail
  refine (KP.out _ (HT.out.later hsz hB2)).mono ?_
  rintro e w3 ⟨rfl, hb3⟩
  have hz3 := hb3.size
  have g3 : w3.heap[w.heap.size]? = some (.cells (hv L) 26 (0, 0)) := by rw [hb3.block _ (by omega)]; exact g2
  have hB3 : Below w.heap.size w w3 := hB2.trans (hb3.mono (by omega))
  clear hb3 g2 hB2 KP
  go_wp2_with (first
    | (refine wl_store26 rfl _ _ rfl w3.heap.size L rfl rfl _ (heap_new _ _ _ rfl) rfl hl _ (setRow_new _ _ _ _ _ rfl) ?_)
    | (refine wl_load26 rfl _ rfl w.heap.size rfl L (heap_past _ _ _ _ g3) hl ?_))
  refine (KR.out _).mono ?_
  rintro e w4 ⟨rfl, hb4⟩
  have g4 : w4.heap[w.heap.size]? = some (.cells (hv L) 26 (0, 0)) := by rw [hb4.block _ (by simp; omega)]; exact heap_past _ _ _ _ g3
  have m4 : w4.heap[w3.heap.size]? = some (.cells (hv L) 26 (0, 0)) := by rw [hb4.block _ (by simp)]; exact heap_new _ _ _ rfl
  have hB4 : Below w.heap.size w w4 := (hB3.alloc hB3.size _).trans (hb4.mono (by simp; omega))
  clear hb4 g3 hB3 KR
  go_wp2_with (first
    | (refine wl_load26g rfl _ rfl w.heap.size rfl L g4 hl ?_)
    | (refine wl_load26g rfl _ rfl w3.heap.size rfl L m4 hl ?_))
  go_ret
  exact ⟨rfl, hB4⟩
end Go.Proofs.YtjfbahpaahlidaaDoor
