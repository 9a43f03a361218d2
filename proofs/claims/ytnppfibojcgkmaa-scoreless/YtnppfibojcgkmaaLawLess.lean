import Derived.Test.YtnppfibojcgkmaaLawCleans
namespace Go.Proofs.Ytnppfibojcgkmaa
open Go Go.Lib Go.RowKit Ieee
set_option maxRecDepth 20000

set_option maxHeartbeats 8000000 in
set_option maxRecDepth 100000 in
theorem lawLess_any (x y z : Nat) (hx : Wd x) (hy : Wd y) (hz : Wd z) (w : World) : Calls Try.prog 4 #[.float .f64 x, .float .f64 y, .float .f64 z] w fun e w' => e = .returned (.bool true) ∧ Below w.heap.size w w' := by
  have HA : Hid (∀ W, Calls Try.prog 9 #[] W fun e w' => e = .returned (.bool true) ∧ Below W.heap.size W w') := awake_any
  have HL : Hid (∀ u v W, Wd u → Wd v → Calls Try.prog 15 #[.float .f64 u, .float .f64 v] W fun e w' => e = .returned (.bool (decide (placeT u < placeT v))) ∧ w' = W) := fun u v W h h' => less_any u v h h' W
  have HR : Hid (∀ W, Calls Try.prog 16 #[.float .f64 x, .float .f64 y] W fun e w' => e = .returned (.bool (decide (placeT x < placeT y))) ∧ w' = W) := fun W => rless_any x y hx hy W
  have HN : Hid (∀ W, Calls Try.prog 17 #[.float .f64 x] W fun e w' => e = .returned (.bool (isN double x)) ∧ w' = W) := fun W => isnan_any x hx W
  have HX : Hid (Wd x) := hx
  have HY : Hid (Wd y) := hy
  have HZ : Hid (Wd z) := hz
  have EXX : Hid (decide (placeT x < placeT x) = false) := decide_eq_false (Int.lt_irrefl _)
  by_cases c1 : placeT x < placeT y
  · have EXY : Hid (decide (placeT x < placeT y) = true) := decide_eq_true c1
    have EYX : Hid (decide (placeT y < placeT x) = false) := decide_eq_false (by omega)
    have EN : Hid (isN double x = false) := by
      show _ = _
      cases h : isN double x with
      | true => exact absurd c1 (less_nan x y hy h)
      | false => rfl
    by_cases c2 : placeT y < placeT z
    · have EYZ : Hid (decide (placeT y < placeT z) = true) := decide_eq_true c2
      have EXZ : Hid (decide (placeT x < placeT z) = true) := decide_eq_true (by omega)
      clear c1 c2 hx hy hz
      go_enter Try.func4, Try.ntmps4
      go_wp2_with (first
        | (go_at_call 9; refine (HA.out _).mono ?_; rintro e w1 ⟨rfl, hb⟩)
        | (go_at_call 15; refine (HL.out _ _ _ (by first | exact HX.out | exact HY.out | exact HZ.out) (by first | exact HX.out | exact HY.out | exact HZ.out)).mono ?_; rintro e w' ⟨rfl, rfl⟩; (first | rw [EXX.out] | rw [EXY.out] | rw [EYX.out] | rw [EYZ.out] | rw [EXZ.out]))
        | (go_at_call 16; refine (HR.out _).mono ?_; rintro e w' ⟨rfl, rfl⟩; rw [EXY.out])
        | (go_at_call 17; refine (HN.out _).mono ?_; rintro e w' ⟨rfl, rfl⟩; rw [EN.out]))
      go_ret
      exact ⟨rfl, hb⟩
    · have EYZ : Hid (decide (placeT y < placeT z) = false) := decide_eq_false c2
      obtain ⟨tb, EXZ⟩ : ∃ tb, Hid (decide (placeT x < placeT z) = tb) := ⟨_, rfl⟩
      clear c1 c2 hx hy hz
      go_enter Try.func4, Try.ntmps4
      go_wp2_with (first
        | (go_at_call 9; refine (HA.out _).mono ?_; rintro e w1 ⟨rfl, hb⟩)
        | (go_at_call 15; refine (HL.out _ _ _ (by first | exact HX.out | exact HY.out | exact HZ.out) (by first | exact HX.out | exact HY.out | exact HZ.out)).mono ?_; rintro e w' ⟨rfl, rfl⟩; (first | rw [EXX.out] | rw [EXY.out] | rw [EYX.out] | rw [EYZ.out] | rw [EXZ.out]))
        | (go_at_call 16; refine (HR.out _).mono ?_; rintro e w' ⟨rfl, rfl⟩; rw [EXY.out])
        | (go_at_call 17; refine (HN.out _).mono ?_; rintro e w' ⟨rfl, rfl⟩; rw [EN.out]))
      go_ret
      exact ⟨rfl, hb⟩
  · have EXY : Hid (decide (placeT x < placeT y) = false) := decide_eq_false c1
    obtain ⟨tc, EYX⟩ : ∃ tb, Hid (decide (placeT y < placeT x) = tb) := ⟨_, rfl⟩
    by_cases c2 : placeT y < placeT z
    · have EYZ : Hid (decide (placeT y < placeT z) = true) := decide_eq_true c2
      obtain ⟨tb, EXZ⟩ : ∃ tb, Hid (decide (placeT x < placeT z) = tb) := ⟨_, rfl⟩
      cases hn : isN double x with
      | true =>
        have EN : Hid (isN double x = true) := hn
        clear c1 c2 hx hy hz hn
        go_enter Try.func4, Try.ntmps4
        go_wp2_with (first
          | (go_at_call 9; refine (HA.out _).mono ?_; rintro e w1 ⟨rfl, hb⟩)
          | (go_at_call 15; refine (HL.out _ _ _ (by first | exact HX.out | exact HY.out | exact HZ.out) (by first | exact HX.out | exact HY.out | exact HZ.out)).mono ?_; rintro e w' ⟨rfl, rfl⟩; (first | rw [EXX.out] | rw [EXY.out] | rw [EYX.out] | rw [EYZ.out] | rw [EXZ.out]))
          | (go_at_call 16; refine (HR.out _).mono ?_; rintro e w' ⟨rfl, rfl⟩; rw [EXY.out])
          | (go_at_call 17; refine (HN.out _).mono ?_; rintro e w' ⟨rfl, rfl⟩; rw [EN.out]))
        go_ret
        exact ⟨rfl, hb⟩
      | false =>
        have EN : Hid (isN double x = false) := hn
        clear c1 c2 hx hy hz hn
        go_enter Try.func4, Try.ntmps4
        go_wp2_with (first
          | (go_at_call 9; refine (HA.out _).mono ?_; rintro e w1 ⟨rfl, hb⟩)
          | (go_at_call 15; refine (HL.out _ _ _ (by first | exact HX.out | exact HY.out | exact HZ.out) (by first | exact HX.out | exact HY.out | exact HZ.out)).mono ?_; rintro e w' ⟨rfl, rfl⟩; (first | rw [EXX.out] | rw [EXY.out] | rw [EYX.out] | rw [EYZ.out] | rw [EXZ.out]))
          | (go_at_call 16; refine (HR.out _).mono ?_; rintro e w' ⟨rfl, rfl⟩; rw [EXY.out])
          | (go_at_call 17; refine (HN.out _).mono ?_; rintro e w' ⟨rfl, rfl⟩; rw [EN.out]))
        go_ret
        exact ⟨rfl, hb⟩
    · have EYZ : Hid (decide (placeT y < placeT z) = false) := decide_eq_false c2
      have EXZ : Hid (decide (placeT x < placeT z) = false) := decide_eq_false (by omega)
      cases hn : isN double x with
      | true =>
        have EN : Hid (isN double x = true) := hn
        clear c1 c2 hx hy hz hn
        go_enter Try.func4, Try.ntmps4
        go_wp2_with (first
          | (go_at_call 9; refine (HA.out _).mono ?_; rintro e w1 ⟨rfl, hb⟩)
          | (go_at_call 15; refine (HL.out _ _ _ (by first | exact HX.out | exact HY.out | exact HZ.out) (by first | exact HX.out | exact HY.out | exact HZ.out)).mono ?_; rintro e w' ⟨rfl, rfl⟩; (first | rw [EXX.out] | rw [EXY.out] | rw [EYX.out] | rw [EYZ.out] | rw [EXZ.out]))
          | (go_at_call 16; refine (HR.out _).mono ?_; rintro e w' ⟨rfl, rfl⟩; rw [EXY.out])
          | (go_at_call 17; refine (HN.out _).mono ?_; rintro e w' ⟨rfl, rfl⟩; rw [EN.out]))
        go_ret
        exact ⟨rfl, hb⟩
      | false =>
        have EN : Hid (isN double x = false) := hn
        clear c1 c2 hx hy hz hn
        go_enter Try.func4, Try.ntmps4
        go_wp2_with (first
          | (go_at_call 9; refine (HA.out _).mono ?_; rintro e w1 ⟨rfl, hb⟩)
          | (go_at_call 15; refine (HL.out _ _ _ (by first | exact HX.out | exact HY.out | exact HZ.out) (by first | exact HX.out | exact HY.out | exact HZ.out)).mono ?_; rintro e w' ⟨rfl, rfl⟩; (first | rw [EXX.out] | rw [EXY.out] | rw [EYX.out] | rw [EYZ.out] | rw [EXZ.out]))
          | (go_at_call 16; refine (HR.out _).mono ?_; rintro e w' ⟨rfl, rfl⟩; rw [EXY.out])
          | (go_at_call 17; refine (HN.out _).mono ?_; rintro e w' ⟨rfl, rfl⟩; rw [EN.out]))
        go_ret
        exact ⟨rfl, hb⟩
end Go.Proofs.Ytnppfibojcgkmaa
