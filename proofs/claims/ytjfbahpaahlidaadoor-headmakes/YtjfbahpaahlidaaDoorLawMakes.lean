import Derived.Test.YtjfbahpaahlidaaDoorRefMake
namespace Go.Proofs.YtjfbahpaahlidaaDoor
open Go Go.RowKit

set_option maxHeartbeats 4000000 in
theorem lawMakes_any (a b c d p : Int) (w : World) (ha : 0 ≤ a ∧ a < 4294967296) (hb : 0 ≤ b ∧ b < 4294967296) (hc : 0 ≤ c ∧ c < 65536) (hd : 0 ≤ d ∧ d < 65536) (hp : 0 ≤ p ∧ p < 256) (hT : Laid w) :
    Calls Tryd.prog 3 #[.int .u32 a, .int .u32 b, .int .u16 c, .int .u16 d, .int .u8 p] w fun e w' => e = .returned (.bool true) ∧ Below w.heap.size w w' := by
  have hsz := hT.size
  have HT : Hid (Laid w) := hT
  have KM : Hid (∀ W, Places W → Calls Tryd.prog 10 #[.int .u32 a, .int .u32 b, .int .u16 c, .int .u16 d, .int .u8 p] W fun e w' => e = .returned (.agg (hv (makeN [a, b, c, d, p] 5))) ∧ Below W.heap.size W w') := fun W hP => make_any a b c d p W ha hb hc hd hp hP
  have RM : Hid (∀ W, Calls Tryd.prog 12 #[.int .u32 a, .int .u32 b, .int .u32 c, .int .u32 d, .int .u32 p] W fun e w' => e = .returned (.agg (hv (makeN [a, b, c, d, p] 5))) ∧ Below W.heap.size W w') := fun W => refMake_any a b c d p W ha hb hc hd hp
  have hM := makeN_byt [a, b, c, d, p] 5 (by decide)
  have F0 : Hid (∀ W, Places W → Calls Tryd.prog 11 #[.agg (hv (makeN [a, b, c, d, p] 5)), .int .i64 0] W fun e w' => e = .returned (.tuple #[.int .u32 a, .int .i64 0]) ∧ Below W.heap.size W w') := fun W hP => by
    have h := field_ok (makeN [a, b, c, d, p] 5) hM 0 W (by decide) (by decide) hP
    rw [makeN_field0 a b c d p ha] at h; exact h
  have F1 : Hid (∀ W, Places W → Calls Tryd.prog 11 #[.agg (hv (makeN [a, b, c, d, p] 5)), .int .i64 1] W fun e w' => e = .returned (.tuple #[.int .u32 b, .int .i64 0]) ∧ Below W.heap.size W w') := fun W hP => by
    have h := field_ok (makeN [a, b, c, d, p] 5) hM 1 W (by decide) (by decide) hP
    rw [makeN_field1 a b c d p hb] at h; exact h
  have F2 : Hid (∀ W, Places W → Calls Tryd.prog 11 #[.agg (hv (makeN [a, b, c, d, p] 5)), .int .i64 2] W fun e w' => e = .returned (.tuple #[.int .u32 c, .int .i64 0]) ∧ Below W.heap.size W w') := fun W hP => by
    have h := field_ok (makeN [a, b, c, d, p] 5) hM 2 W (by decide) (by decide) hP
    rw [makeN_field2 a b c d p hc] at h; exact h
  have F3 : Hid (∀ W, Places W → Calls Tryd.prog 11 #[.agg (hv (makeN [a, b, c, d, p] 5)), .int .i64 3] W fun e w' => e = .returned (.tuple #[.int .u32 d, .int .i64 0]) ∧ Below W.heap.size W w') := fun W hP => by
    have h := field_ok (makeN [a, b, c, d, p] 5) hM 3 W (by decide) (by decide) hP
    rw [makeN_field3 a b c d p hd] at h; exact h
  have F4 : Hid (∀ W, Places W → Calls Tryd.prog 11 #[.agg (hv (makeN [a, b, c, d, p] 5)), .int .i64 4] W fun e w' => e = .returned (.tuple #[.int .u32 p, .int .i64 0]) ∧ Below W.heap.size W w') := fun W hP => by
    have h := field_ok (makeN [a, b, c, d, p] 5) hM 4 W (by decide) (by decide) hP
    rw [makeN_field4 a b c d p hp] at h; exact h
  obtain ⟨M, hMM⟩ : ∃ M, M = makeN [a, b, c, d, p] 5 := ⟨_, rfl⟩
  rw [← hMM] at KM RM hM F0 F1 F2 F3 F4
  have hl := hM.1
  obtain ⟨ha0, ha1⟩ := ha
  obtain ⟨hb0, hb1⟩ := hb
  obtain ⟨hc0, hc1⟩ := hc
  obtain ⟨hd0, hd1⟩ := hd
  obtain ⟨hp0, hp1⟩ := hp
  have e1 : ∀ w, (Op.equalIn 10000 26 (.agg (hv M)) (.agg (hv M))).run Tryd.prog w = .ok true w := fun w => by rw [eq26 M M hl hl]; simp
  have eg : ∀ op x y (xs ys : Array Value) w, (eqGuard op 26 x y (.agg xs) (.agg ys)).run Tryd.prog w = .ok () w := fun op x y xs ys w => run_eqGuard_agg w op 26 x y xs ys (by kernel_rfl)
  clear hT hMM hM
  go_enter Tryd.func3, Tryd.ntmps3
  go_wp2_with fail
  refine (awake_any _ HT.out).mono ?_
  rintro e w1 ⟨rfl, hB1⟩
  go_wp2_with fail
  refine (KM.out _ (HT.out.places.later (by omega) hB1)).mono ?_
  rintro e w2 ⟨rfl, hb2⟩
  have hB2 : Below w.heap.size w w2 := hB1.trans (hb2.mono hB1.size)
  clear hb2 hB1 KM
  have g0 : (w2.alloc (Obj.cells (hv M) 26)).heap[w2.heap.size]? = some (.cells (hv M) 26 (0, 0)) := heap_new _ _ _ rfl
  go_wp2_with (first
    | (refine wl_store26 rfl _ _ rfl w2.heap.size M rfl rfl _ (heap_new _ _ _ rfl) rfl hl _ (setRow_new _ _ _ _ _ rfl) ?_)
    | (refine wl_load26 rfl _ rfl w2.heap.size rfl M g0 hl ?_))
  have hC0 : Below w.heap.size w (w2.alloc (Obj.cells (hv M) 26)) := hB2.alloc hB2.size _
  refine (F0.out _ (HT.out.places.later (by omega) hC0)).mono ?_
  rintro e x0 ⟨rfl, hx0⟩
  have g1 : x0.heap[w2.heap.size]? = some (.cells (hv M) 26 (0, 0)) := by rw [hx0.block _ (Array.getElem?_eq_some_iff.1 g0).1]; exact g0
  have hC1 : Below w.heap.size w x0 := hC0.trans (hx0.mono hC0.size)
  clear hx0 g0 hC0 F0
  go_wp2_with (refine wl_load26 rfl _ rfl w2.heap.size rfl M g1 hl ?_)
  refine (F1.out _ (HT.out.places.later (by omega) hC1)).mono ?_
  rintro e x1 ⟨rfl, hx1⟩
  have g2 : x1.heap[w2.heap.size]? = some (.cells (hv M) 26 (0, 0)) := by rw [hx1.block _ (Array.getElem?_eq_some_iff.1 g1).1]; exact g1
  have hC2 : Below w.heap.size w x1 := hC1.trans (hx1.mono hC1.size)
  clear hx1 g1 hC1 F1
  go_wp2_with (refine wl_load26 rfl _ rfl w2.heap.size rfl M g2 hl ?_)
  refine (F2.out _ (HT.out.places.later (by omega) hC2)).mono ?_
  rintro e x2 ⟨rfl, hx2⟩
  have g3 : x2.heap[w2.heap.size]? = some (.cells (hv M) 26 (0, 0)) := by rw [hx2.block _ (Array.getElem?_eq_some_iff.1 g2).1]; exact g2
  have hC3 : Below w.heap.size w x2 := hC2.trans (hx2.mono hC2.size)
  clear hx2 g2 hC2 F2
  go_wp2_with (refine wl_load26 rfl _ rfl w2.heap.size rfl M g3 hl ?_)
  refine (F3.out _ (HT.out.places.later (by omega) hC3)).mono ?_
  rintro e x3 ⟨rfl, hx3⟩
  have g4 : x3.heap[w2.heap.size]? = some (.cells (hv M) 26 (0, 0)) := by rw [hx3.block _ (Array.getElem?_eq_some_iff.1 g3).1]; exact g3
  have hC4 : Below w.heap.size w x3 := hC3.trans (hx3.mono hC3.size)
  clear hx3 g3 hC3 F3
  go_wp2_with (refine wl_load26 rfl _ rfl w2.heap.size rfl M g4 hl ?_)
  refine (F4.out _ (HT.out.places.later (by omega) hC4)).mono ?_
  rintro e x4 ⟨rfl, hx4⟩
  have g5 : x4.heap[w2.heap.size]? = some (.cells (hv M) 26 (0, 0)) := by rw [hx4.block _ (Array.getElem?_eq_some_iff.1 g4).1]; exact g4
  have hC5 : Below w.heap.size w x4 := hC4.trans (hx4.mono hC4.size)
  clear hx4 g4 hC4 F4
  go_wp2_with fail
  have ne1 := Later.ne x4
  refine wp_region_later (by kernel_rfl) (by kernel_rfl) ?_
  refine ql26 rfl _ rfl w2.heap.size rfl M g5 hl ?_
  simp only [Act.put, List.setIfInBounds_toArray, List.set_cons_succ, List.set_cons_zero]
  go_big_quiet_step (fail)
  go_big_quiet_step (fail)
  go_big_quiet_step (fail)
  go_big_quiet_step (fail)
  go_big_quiet_step (fail)
  go_big_quiet_step (fail)
  go_big_quiet_step (fail)
  go_big_quiet_step (fail)
  go_big_quiet_want; go_big_quiet_op
  refine ⟨_, fun u => Calls.later_of (RM.out u.world), ?_⟩
  go_big_quiet_on
  repeat go_big_quiet_step (fail)
  refine wpQuiet_nil ?_
  rintro w' ⟨u, rfl⟩
  go_wp2_with fail
  go_ret
  exact ⟨rfl, hC5.trans (u.below.mono hC5.size)⟩
end Go.Proofs.YtjfbahpaahlidaaDoor
