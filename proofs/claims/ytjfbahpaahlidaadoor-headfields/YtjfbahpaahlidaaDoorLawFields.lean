import Derived.Test.YtjfbahpaahlidaaDoorField
namespace Go.Proofs.YtjfbahpaahlidaaDoor
open Go Go.RowKit

set_option maxHeartbeats 2000000 in
theorem lawFields_out (L M : List Int) (hL : L.length = 13) (hM : M.length = 13) (f v a eW : Int) (w : World) (hT : Laid w)
    (c11 : ∀ W, Places W → Calls Tryd.prog 11 #[.agg (hv L), .int .i64 f] W fun e w' => e = .returned (.tuple #[.int .u32 a, .int .i64 1]) ∧ Below W.heap.size W w')
    (c13 : ∀ W, Calls Tryd.prog 13 #[.agg (hv L), .int .i64 f] W fun e w' => e = .returned (.tuple #[.int .u32 a, .int .i64 1]) ∧ Below W.heap.size W w')
    (c14 : ∀ W, Places W → Calls Tryd.prog 14 #[.agg (hv L), .int .i64 f, .int .u32 v] W fun e w' => e = .returned (.tuple #[.agg (hv M), .int .i64 eW]) ∧ Below W.heap.size W w')
    (c15 : ∀ W, Calls Tryd.prog 15 #[.agg (hv L), .int .i64 f, .int .u32 v] W fun e w' => e = .returned (.tuple #[.agg (hv M), .int .i64 eW]) ∧ Below W.heap.size W w')
    (c16 : ∀ W, Places W → Calls Tryd.prog 16 #[.int .i64 f] W fun e w' => e = .returned (.tuple #[.int .i64 0, .int .i64 0, .int .i64 1]) ∧ Below W.heap.size W w') :
    Calls Tryd.prog 4 #[.agg (hv L), .int .i64 f, .int .u32 v] w fun e w' => e = .returned (.bool true) ∧ Below w.heap.size w w' := by
  have hsz := hT.size
  have HT : Hid (Laid w) := hT
  have K11 : Hid _ := c11
  have K13 : Hid _ := c13
  have K14 : Hid _ := c14
  have K15 : Hid _ := c15
  have K16 : Hid _ := c16
  have e1 : ∀ w, (Op.equalIn 10000 26 (.agg (hv M)) (.agg (hv M))).run Tryd.prog w = .ok true w := fun w => by rw [eq26 M M hM hM]; simp
  have eg : ∀ op x y (xs ys : Array Value) w, (eqGuard op 26 x y (.agg xs) (.agg ys)).run Tryd.prog w = .ok () w := fun op x y xs ys w => run_eqGuard_agg w op 26 x y xs ys (by kernel_rfl)
  clear hT c11 c13 c14 c15 c16
  go_enter Tryd.func4, Tryd.ntmps4
  go_wp2_with fail
  refine (awake_any _ (HT.out.later hsz ((Below.refl _ _).alloc (Nat.le_refl _) _))).mono ?_
  rintro e w1 ⟨rfl, hb1⟩
  have hz1 := hb1.size
  rw [World.size_alloc] at hz1
  have g1 : w1.heap[w.heap.size]? = some (.cells (hv L) 26 (0, 0)) := by rw [hb1.block _ (by simp)]; exact heap_new _ _ _ rfl
  have hB1 : Below w.heap.size w w1 := ((Below.refl _ _).alloc (Nat.le_refl _) _).trans (hb1.mono (by simp))
  clear hb1
  go_wp2_with (refine wl_load26 rfl _ rfl w.heap.size rfl L g1 hL ?_)
  refine (K11.out _ (HT.out.places.later (by omega) hB1)).mono ?_
  rintro e w2 ⟨rfl, hb2⟩
  have g2 : w2.heap[w.heap.size]? = some (.cells (hv L) 26 (0, 0)) := by rw [hb2.block _ (by omega)]; exact g1
  have hz2 := hb2.size
  have hB2 : Below w.heap.size w w2 := hB1.trans (hb2.mono (by omega))
  clear hb2 g1 hB1
  go_wp2_with (refine wl_load26 rfl _ rfl w.heap.size rfl L g2 hL ?_)
  refine (K13.out _).mono ?_
  rintro e w3 ⟨rfl, hb3⟩
  have g3 : w3.heap[w.heap.size]? = some (.cells (hv L) 26 (0, 0)) := by rw [hb3.block _ (by omega)]; exact g2
  have hz3 := hb3.size
  have hB3 : Below w.heap.size w w3 := hB2.trans (hb3.mono (by omega))
  clear hb3 g2 hB2
  go_wp2_with (refine wl_load26 rfl _ rfl w.heap.size rfl L g3 hL ?_)
  refine (K14.out _ (HT.out.places.later (by omega) hB3)).mono ?_
  rintro e w4 ⟨rfl, hb4⟩
  have g4 : w4.heap[w.heap.size]? = some (.cells (hv L) 26 (0, 0)) := by rw [hb4.block _ (by omega)]; exact g3
  have hz4 := hb4.size
  have hB4 : Below w.heap.size w w4 := hB3.trans (hb4.mono (by omega))
  clear hb4 g3 hB3
  go_wp2_with (first
    | (refine wl_store26 rfl _ _ rfl w4.heap.size M rfl rfl _ (heap_new _ _ _ rfl) rfl hM _ (setRow_new _ _ _ _ _ rfl) ?_)
    | (refine wl_load26 rfl _ rfl w.heap.size rfl L (heap_past _ _ _ _ g4) hL ?_))
  refine (K15.out _).mono ?_
  rintro e w6 ⟨rfl, hb6⟩
  have hz6 := hb6.size
  rw [World.size_alloc] at hz6
  have m6 : w6.heap[w4.heap.size]? = some (.cells (hv M) 26 (0, 0)) := by rw [hb6.block _ (by simp)]; exact heap_new _ _ _ rfl
  have hB6 : Below w.heap.size w w6 := (hB4.alloc hB4.size _).trans (hb6.mono (by simp; omega))
  clear hb6 g4 hB4
  go_wp2_with (first
    | (refine wl_store26 rfl _ _ rfl w6.heap.size M rfl rfl _ (heap_new _ _ _ rfl) rfl hM _ (setRow_new _ _ _ _ _ rfl) ?_))
  refine (K16.out _ (HT.out.places.later (by omega) (hB6.alloc hB6.size _))).mono ?_
  rintro e w8 ⟨rfl, hb8⟩
  have m8 : w8.heap[w4.heap.size]? = some (.cells (hv M) 26 (0, 0)) := by rw [hb8.block _ (by simp; omega)]; exact heap_past _ _ _ _ m6
  have n8 : w8.heap[w6.heap.size]? = some (.cells (hv M) 26 (0, 0)) := by rw [hb8.block _ (by simp)]; exact heap_new _ _ _ rfl
  have hB8 : Below w.heap.size w w8 := (hB6.alloc hB6.size _).trans (hb8.mono (by simp; omega))
  clear hb8 m6 hB6
  go_wp2_with (first
    | (refine wl_load26g rfl _ rfl w4.heap.size rfl M m8 hM ?_)
    | (refine wl_load26g rfl _ rfl w6.heap.size rfl M n8 hM ?_))
  go_ret
  exact ⟨rfl, hB8⟩

set_option maxHeartbeats 2000000 in
theorem lawFields_in (L M : List Int) (hL : L.length = 13) (hM : M.length = 13) (f v a p q eW : Int) (w : World) (hT : Laid w)
    (c11 : ∀ W, Places W → Calls Tryd.prog 11 #[.agg (hv L), .int .i64 f] W fun e w' => e = .returned (.tuple #[.int .u32 a, .int .i64 0]) ∧ Below W.heap.size W w')
    (c13 : ∀ W, Calls Tryd.prog 13 #[.agg (hv L), .int .i64 f] W fun e w' => e = .returned (.tuple #[.int .u32 a, .int .i64 0]) ∧ Below W.heap.size W w')
    (c14 : ∀ W, Places W → Calls Tryd.prog 14 #[.agg (hv L), .int .i64 f, .int .u32 v] W fun e w' => e = .returned (.tuple #[.agg (hv M), .int .i64 eW]) ∧ Below W.heap.size W w')
    (c15 : ∀ W, Calls Tryd.prog 15 #[.agg (hv L), .int .i64 f, .int .u32 v] W fun e w' => e = .returned (.tuple #[.agg (hv M), .int .i64 eW]) ∧ Below W.heap.size W w')
    (c16 : ∀ W, Places W → Calls Tryd.prog 16 #[.int .i64 f] W fun e w' => e = .returned (.tuple #[.int .i64 p, .int .i64 q, .int .i64 0]) ∧ Below W.heap.size W w')
    (c17 : ∀ W, Calls Tryd.prog 17 #[.int .i64 f] W fun e w' => e = .returned (.int .i64 p) ∧ w' = W)
    (c18 : ∀ W, Calls Tryd.prog 18 #[.int .i64 f] W fun e w' => e = .returned (.int .i64 q) ∧ w' = W) :
    Calls Tryd.prog 4 #[.agg (hv L), .int .i64 f, .int .u32 v] w fun e w' => e = .returned (.bool true) ∧ Below w.heap.size w w' := by
  have hsz := hT.size
  have HT : Hid (Laid w) := hT
  have K11 : Hid _ := c11
  have K13 : Hid _ := c13
  have K14 : Hid _ := c14
  have K15 : Hid _ := c15
  have K16 : Hid _ := c16
  have K17 : Hid _ := c17
  have K18 : Hid _ := c18
  have e1 : ∀ w, (Op.equalIn 10000 26 (.agg (hv M)) (.agg (hv M))).run Tryd.prog w = .ok true w := fun w => by rw [eq26 M M hM hM]; simp
  have eg : ∀ op x y (xs ys : Array Value) w, (eqGuard op 26 x y (.agg xs) (.agg ys)).run Tryd.prog w = .ok () w := fun op x y xs ys w => run_eqGuard_agg w op 26 x y xs ys (by kernel_rfl)
  clear hT c11 c13 c14 c15 c16 c17 c18
  go_enter Tryd.func4, Tryd.ntmps4
  go_wp2_with fail
  refine (awake_any _ (HT.out.later hsz ((Below.refl _ _).alloc (Nat.le_refl _) _))).mono ?_
  rintro e w1 ⟨rfl, hb1⟩
  have hz1 := hb1.size
  rw [World.size_alloc] at hz1
  have g1 : w1.heap[w.heap.size]? = some (.cells (hv L) 26 (0, 0)) := by rw [hb1.block _ (by simp)]; exact heap_new _ _ _ rfl
  have hB1 : Below w.heap.size w w1 := ((Below.refl _ _).alloc (Nat.le_refl _) _).trans (hb1.mono (by simp))
  clear hb1
  go_wp2_with (refine wl_load26 rfl _ rfl w.heap.size rfl L g1 hL ?_)
  refine (K11.out _ (HT.out.places.later (by omega) hB1)).mono ?_
  rintro e w2 ⟨rfl, hb2⟩
  have g2 : w2.heap[w.heap.size]? = some (.cells (hv L) 26 (0, 0)) := by rw [hb2.block _ (by omega)]; exact g1
  have hz2 := hb2.size
  have hB2 : Below w.heap.size w w2 := hB1.trans (hb2.mono (by omega))
  clear hb2 g1 hB1
  go_wp2_with (refine wl_load26 rfl _ rfl w.heap.size rfl L g2 hL ?_)
  refine (K13.out _).mono ?_
  rintro e w3 ⟨rfl, hb3⟩
  have g3 : w3.heap[w.heap.size]? = some (.cells (hv L) 26 (0, 0)) := by rw [hb3.block _ (by omega)]; exact g2
  have hz3 := hb3.size
  have hB3 : Below w.heap.size w w3 := hB2.trans (hb3.mono (by omega))
  clear hb3 g2 hB2
  go_wp2_with (refine wl_load26 rfl _ rfl w.heap.size rfl L g3 hL ?_)
  refine (K14.out _ (HT.out.places.later (by omega) hB3)).mono ?_
  rintro e w4 ⟨rfl, hb4⟩
  have g4 : w4.heap[w.heap.size]? = some (.cells (hv L) 26 (0, 0)) := by rw [hb4.block _ (by omega)]; exact g3
  have hz4 := hb4.size
  have hB4 : Below w.heap.size w w4 := hB3.trans (hb4.mono (by omega))
  clear hb4 g3 hB3
  go_wp2_with (first
    | (refine wl_store26 rfl _ _ rfl w4.heap.size M rfl rfl _ (heap_new _ _ _ rfl) rfl hM _ (setRow_new _ _ _ _ _ rfl) ?_)
    | (refine wl_load26 rfl _ rfl w.heap.size rfl L (heap_past _ _ _ _ g4) hL ?_))
  refine (K15.out _).mono ?_
  rintro e w6 ⟨rfl, hb6⟩
  have hz6 := hb6.size
  rw [World.size_alloc] at hz6
  have m6 : w6.heap[w4.heap.size]? = some (.cells (hv M) 26 (0, 0)) := by rw [hb6.block _ (by simp)]; exact heap_new _ _ _ rfl
  have hB6 : Below w.heap.size w w6 := (hB4.alloc hB4.size _).trans (hb6.mono (by simp; omega))
  clear hb6 g4 hB4
  go_wp2_with (first
    | (refine wl_store26 rfl _ _ rfl w6.heap.size M rfl rfl _ (heap_new _ _ _ rfl) rfl hM _ (setRow_new _ _ _ _ _ rfl) ?_))
  refine (K16.out _ (HT.out.places.later (by omega) (hB6.alloc hB6.size _))).mono ?_
  rintro e w8 ⟨rfl, hb8⟩
  have m8 : w8.heap[w4.heap.size]? = some (.cells (hv M) 26 (0, 0)) := by rw [hb8.block _ (by simp; omega)]; exact heap_past _ _ _ _ m6
  have n8 : w8.heap[w6.heap.size]? = some (.cells (hv M) 26 (0, 0)) := by rw [hb8.block _ (by simp)]; exact heap_new _ _ _ rfl
  have hB8 : Below w.heap.size w w8 := (hB6.alloc hB6.size _).trans (hb8.mono (by simp; omega))
  clear hb8 m6 hB6
  go_wp2_with (first
    | (refine wl_load26g rfl _ rfl w4.heap.size rfl M m8 hM ?_)
    | (refine wl_load26g rfl _ rfl w6.heap.size rfl M n8 hM ?_)
    | (go_at_call 17; refine (K17.out _).mono ?_; rintro e w' ⟨rfl, hw'⟩; subst hw')
    | (go_at_call 18; refine (K18.out _).mono ?_; rintro e w' ⟨rfl, hw'⟩; subst hw'))
  go_ret
  exact ⟨rfl, hB8⟩

theorem lawFields_any (L : List Int) (hL : Byt L) (f v : Int) (w : World) (hv0 : 0 ≤ v) (hv1 : v < 4294967296) (hT : Laid w) :
    Calls Tryd.prog 4 #[.agg (hv L), .int .i64 f, .int .u32 v] w fun e w' => e = .returned (.bool true) ∧ Below w.heap.size w w' := by
  by_cases hf : f < 0 ∨ 5 ≤ f
  · exact lawFields_out L Z13 hL.1 rfl f v 0 1 w hT (fun W _ => field_no L f W hf) (fun W => refField_no L f W hf) (fun W _ => with_no L hL f v W hf) (fun W => refWith_no L f v W hf) (fun W _ => (place_no f W hf).mono fun e w' ⟨h1, h2⟩ => ⟨h1, by rw [h2]; exact Below.refl _ _⟩)
  · have h0 : 0 ≤ f := by omega
    have h1 : f < 5 := by omega
    have hb := (place_facts f h0 h1).2.2.1
    by_cases hw : v < 2 ^ (8 * sizeOfF f)
    · exact lawFields_in L (putN L (atOf f) (sizeOfF f) v (sizeOfF f)) hL.1 (putN_byt L hL _ _ _ hb).1 f v _ (firstOf f) (widthOf f) 0 w hT (fun W hP => field_ok L hL f W h0 h1 hP) (fun W => refField_ok L hL f W h0 h1) (fun W hP => with_ok L hL f v W h0 h1 hv0 hv1 hP hw) (fun W => refWith_ok L hL f v W h0 h1 hv0 hv1 hw) (fun W hP => place_in f W h0 h1 hP) (fun W => first_in f W h0 h1) (fun W => width_in f W h0 h1)
    · exact lawFields_in L Z13 hL.1 rfl f v _ (firstOf f) (widthOf f) 10 w hT (fun W hP => field_ok L hL f W h0 h1 hP) (fun W => refField_ok L hL f W h0 h1) (fun W hP => with_big L f v W h0 h1 hv0 hv1 hP hw) (fun W => refWith_big L hL f v W h0 h1 hv0 hv1 hw) (fun W hP => place_in f W h0 h1 hP) (fun W => first_in f W h0 h1) (fun W => width_in f W h0 h1)
end Go.Proofs.YtjfbahpaahlidaaDoor
