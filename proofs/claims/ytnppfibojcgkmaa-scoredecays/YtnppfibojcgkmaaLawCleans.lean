import Derived.Test.YtnppfibojcgkmaaScAwake
namespace Go.Proofs.Ytnppfibojcgkmaa
open Go Go.Lib Go.RowKit Ieee
set_option maxRecDepth 20000

theorem ord_r (a b : Nat) (ha : a ≤ double.infRung) (hb : b ≤ double.infRung) : ((FloatKind.f64.format.order a b == some Ordering.lt) = decide (a < b)) ∧ ((FloatKind.f64.format.order a b == some Ordering.eq) = decide (a = b)) ∧ ((FloatKind.f64.format.order a b == some Ordering.gt) = decide (b < a)) := by
  rw [f64d, order_rung a b ha hb, some_lt, some_eq, some_gt]
  refine ⟨decide_eq_decide.2 (by omega), decide_eq_decide.2 (by omega), decide_eq_decide.2 (by omega)⟩
set_option maxHeartbeats 8000000 in
set_option maxRecDepth 100000 in
theorem lawCleans_any (x : Nat) (hx : Wd x) (w : World) : Calls Try.prog 3 #[.float .f64 x] w fun e w' => e = .returned (.bool true) ∧ Below w.heap.size w w' := by
  have HA : Hid (∀ W, Calls Try.prog 9 #[] W fun e w' => e = .returned (.bool true) ∧ Below W.heap.size W w') := awake_any
  obtain ⟨y, hy⟩ : ∃ y, y = cleanT x := ⟨_, rfl⟩
  have hyl : y < double.infRung := by rw [hy]; exact cleanT_lt x
  have HC : Hid (∀ z W, (z = x ∨ z = y) → Calls Try.prog 10 #[.float .f64 z] W fun e w' => e = .returned (.float .f64 y) ∧ w' = W) := fun z W h => by
    rcases h with rfl | rfl
    · rw [hy]; exact clean_any _ hx W
    · have := clean_any z (wd_lt hyl) W
      rw [cleanT_fix _ hyl] at this; exact this
  have HR : Hid (∀ W, Calls Try.prog 12 #[.float .f64 x] W fun e w' => e = .returned (.float .f64 y) ∧ w' = W) := fun W => by rw [hy]; exact rclean_any _ hx W
  have HS : Hid (∀ W, Calls Try.prog 11 #[.float .f64 y, .float .f64 y] W fun e w' => e = .returned (.bool true) ∧ w' = W) := fun W => by
    have := same_any y y W
    rw [decide_eq_true rfl] at this; exact this
  have HB : Hid (∀ W, Calls Try.prog 13 #[.float .f64 y] W fun e w' => e = .returned (.bool false) ∧ w' = W) := fun W => by
    have := signbit_any y (wd_lt hyl) W
    rw [decide_eq_false (by rw [d_inf] at hyl; omega)] at this; exact this
  have HI : Hid (∀ W, Calls Try.prog 14 #[.float .f64 x, .int .i64 1] W fun e w' => e = .returned (.bool (decide (x = double.infRung))) ∧ w' = W) := fun W => isinf_any x hx W
  have hm : (9218868437227405311 : Nat) + 1 = double.infRung := max_inf
  obtain ⟨_, g2, g1⟩ := ord_r y 0 (by omega) (Nat.zero_le _)
  obtain ⟨m1, m2, _⟩ := ord_r y 9218868437227405311 (by omega) (by omega)
  have hx0 := order_gt0 x hx
  by_cases c1 : 0 < x ∧ x ≤ double.infRung
  · rw [decide_eq_true c1] at hx0
    have hyx := cleanT_rung x c1.2
    rw [← hy] at hyx
    unfold MAXR at hyx
    obtain ⟨_, e2, _⟩ := ord_r y x (by omega) c1.2
    by_cases c2 : x = double.infRung
    · rw [decide_eq_true c2] at HI
      rw [decide_eq_false (by omega)] at e2 g2 m1
      rw [decide_eq_true (by omega)] at g1 m2
      clear hy hyl hx hm c1 c2 hyx
      go_enter Try.func3, Try.ntmps3
      go_wp2_with (first
        | (go_at_call 9; refine (HA.out _).mono ?_; rintro e w1 ⟨rfl, hb⟩)
        | (go_at_call 10; refine (HC.out _ _ (by first | exact .inl rfl | exact .inr rfl)).mono ?_; rintro e w' ⟨rfl, rfl⟩)
        | (go_at_call 12; refine (HR.out _).mono ?_; rintro e w' ⟨rfl, rfl⟩)
        | (go_at_call 11; refine (HS.out _).mono ?_; rintro e w' ⟨rfl, rfl⟩)
        | (go_at_call 13; refine (HB.out _).mono ?_; rintro e w' ⟨rfl, rfl⟩)
        | (go_at_call 14; refine (HI.out _).mono ?_; rintro e w' ⟨rfl, rfl⟩))
      go_ret
      exact ⟨rfl, hb⟩
    · rw [decide_eq_false c2] at HI
      rw [decide_eq_true (by omega)] at e2 g1
      rw [decide_eq_false (by omega)] at g2
      by_cases c3 : x < 9218868437227405311
      · rw [decide_eq_true (by omega)] at m1
        rw [decide_eq_false (by omega)] at m2
        clear hy hyl hx hm c1 c2 hyx c3
        go_enter Try.func3, Try.ntmps3
        go_wp2_with (first
          | (go_at_call 9; refine (HA.out _).mono ?_; rintro e w1 ⟨rfl, hb⟩)
          | (go_at_call 10; refine (HC.out _ _ (by first | exact .inl rfl | exact .inr rfl)).mono ?_; rintro e w' ⟨rfl, rfl⟩)
          | (go_at_call 12; refine (HR.out _).mono ?_; rintro e w' ⟨rfl, rfl⟩)
          | (go_at_call 11; refine (HS.out _).mono ?_; rintro e w' ⟨rfl, rfl⟩)
          | (go_at_call 13; refine (HB.out _).mono ?_; rintro e w' ⟨rfl, rfl⟩)
          | (go_at_call 14; refine (HI.out _).mono ?_; rintro e w' ⟨rfl, rfl⟩))
        go_ret
        exact ⟨rfl, hb⟩
      · rw [decide_eq_false (by omega)] at m1
        rw [decide_eq_true (by omega)] at m2
        clear hy hyl hx hm c1 c2 hyx c3
        go_enter Try.func3, Try.ntmps3
        go_wp2_with (first
          | (go_at_call 9; refine (HA.out _).mono ?_; rintro e w1 ⟨rfl, hb⟩)
          | (go_at_call 10; refine (HC.out _ _ (by first | exact .inl rfl | exact .inr rfl)).mono ?_; rintro e w' ⟨rfl, rfl⟩)
          | (go_at_call 12; refine (HR.out _).mono ?_; rintro e w' ⟨rfl, rfl⟩)
          | (go_at_call 11; refine (HS.out _).mono ?_; rintro e w' ⟨rfl, rfl⟩)
          | (go_at_call 13; refine (HB.out _).mono ?_; rintro e w' ⟨rfl, rfl⟩)
          | (go_at_call 14; refine (HI.out _).mono ?_; rintro e w' ⟨rfl, rfl⟩))
        go_ret
        exact ⟨rfl, hb⟩
  · rw [decide_eq_false c1] at hx0
    have hy0 : y = 0 := by rw [hy]; exact cleanT_none x c1
    rw [decide_eq_false (by omega)] at g1 m2
    rw [decide_eq_true (by omega)] at g2 m1
    clear hy hyl hx hm c1 hy0
    go_enter Try.func3, Try.ntmps3
    go_wp2_with (first
      | (go_at_call 9; refine (HA.out _).mono ?_; rintro e w1 ⟨rfl, hb⟩)
      | (go_at_call 10; refine (HC.out _ _ (by first | exact .inl rfl | exact .inr rfl)).mono ?_; rintro e w' ⟨rfl, rfl⟩)
      | (go_at_call 12; refine (HR.out _).mono ?_; rintro e w' ⟨rfl, rfl⟩)
      | (go_at_call 11; refine (HS.out _).mono ?_; rintro e w' ⟨rfl, rfl⟩)
      | (go_at_call 13; refine (HB.out _).mono ?_; rintro e w' ⟨rfl, rfl⟩)
      | (go_at_call 14; refine (HI.out _).mono ?_; rintro e w' ⟨rfl, rfl⟩))
    go_ret
    exact ⟨rfl, hb⟩
end Go.Proofs.Ytnppfibojcgkmaa
