import Derived.Test.YtfbphblodankmaaWRef3
namespace Go.Proofs.Ytfbphblodankmaa
open Go Go.RowKit
set_option maxRecDepth 20000

set_option maxHeartbeats 4000000 in
theorem awake9_any (w : World) : Calls Try.prog 9 #[] w fun e w' => e = .returned (.bool true) ∧ Below w.heap.size w w' := by
  have CP : Hid (∀ (v : Value) (W : World), BSl W v [7] → Calls Try.prog 10 #[v, .int .u64 258, .int .i64 2] W fun e w' => ∃ u, e = .returned (.tuple #[u, .int .i64 0]) ∧ BOwn W.heap.size w' u [7, 1, 2] ∧ Below W.heap.size W w') := fun v W h => put_any v [7] 258 2 W h (by simp)
  have CS : Hid (∀ (v : Value) (W : World), BSl W v [9] → Calls Try.prog 20 #[.int .i64 3, v] W fun e w' => ∃ u, e = .returned (.tuple #[u, .int .i64 0]) ∧ BOwn W.heap.size w' u [0, 1, 3, 9] ∧ Below W.heap.size W w') := fun v W h => seal_any 3 v [9] W h
  have H7 : Hid (BSl (w.alloc (.cells #[.int .u8 7] 5)) (.slice (some ⟨w.heap.size, 0, none⟩) 1 1) [7]) := (own_one w 7).sl
  go_enter Try.func9, Try.ntmps9
  go_wp2_with fail
  refine (CP.out _ _ H7.out).mono ?_
  rintro e w1 ⟨u, rfl, ho1, hb1⟩
  obtain ⟨o1, n1, c1, rfl⟩ := val_slice ho1.sl
  have HO1 : Hid (BSl w1 (.slice o1 n1 c1) [7, 1, 2]) := ho1.sl
  have HB1 : Hid (Below w.heap.size w w1) := ((Below.refl _ _).alloc (Nat.le_refl _) _).trans (hb1.mono (by simp))
  have H9 : Hid (BSl (w1.alloc (.cells #[.int .u8 9] 5)) (.slice (some ⟨w1.heap.size, 0, none⟩) 1 1) [9]) := (own_one w1 9).sl
  clear ho1 hb1
  go_wp2_with fail
  refine (CS.out _ _ H9.out).mono ?_
  rintro e w2 ⟨u, rfl, ho2, hb2⟩
  obtain ⟨o2, n2, c2, rfl⟩ := val_slice ho2.sl
  have hB : Below w1.heap.size w1 w2 := ((Below.refl _ _).alloc (Nat.le_refl _) _).trans (hb2.mono (by simp))
  have HB2 : Hid (Below w.heap.size w w2) := HB1.out.trans (hB.mono HB1.out.size)
  have s1 := run_strB w2 _ _ (HO1.out.below hB)
  have s2 := run_strB w2 _ _ ho2.sl
  clear ho2 hb2 hB
  go_wp2_with fail
  go_ret
  exact ⟨rfl, HB2.out⟩
end Go.Proofs.Ytfbphblodankmaa
