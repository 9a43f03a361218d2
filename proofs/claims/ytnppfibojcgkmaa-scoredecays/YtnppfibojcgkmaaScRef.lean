import Derived.Test.YtnppfibojcgkmaaScBase
namespace Go.Proofs.Ytnppfibojcgkmaa
open Go Go.Lib Go.RowKit Ieee
set_option maxRecDepth 20000

theorem bits_run (x : Nat) (w : World) : (callFunc 32 #[.float .f64 x]).run Try.prog w = .ok (.value (.int .u64 x)) w := by
  rw [run_callFunc_extern (e := Extern.MathFloatBits.float64bits) Try.func32 (by kernel_rfl) (by kernel_rfl) (by kernel_rfl) (by kernel_rfl)]
  rfl
theorem frombits_run (n : Int) (w : World) : (callFunc 33 #[.int .u64 n]).run Try.prog w = .ok (.value (.float .f64 n.toNat)) w := by
  rw [run_callFunc_extern (e := Extern.MathFloatBits.float64frombits) Try.func33 (by kernel_rfl) (by kernel_rfl) (by kernel_rfl) (by kernel_rfl)]
  rfl
theorem cast_beq (a b : Nat) : (((a : Nat) : Int) == ((b : Nat) : Int)) = decide (a = b) := by rw [Bool.eq_iff_iff]; simp; omega
theorem same_any (a b : Nat) (w : World) : Calls Try.prog 11 #[.float .f64 a, .float .f64 b] w fun e w' => e = .returned (.bool (decide (a = b))) ∧ w' = w := by
  have h1 := bits_run a
  have h2 := bits_run b
  go_enter Try.func11, Try.ntmps11
  go_wp2
  go_ret
  exact ⟨by simp [cast_beq], rfl⟩
theorem rclean_any (x : Nat) (hx : Wd x) (w : World) : Calls Try.prog 12 #[.float .f64 x] w fun e w' => e = .returned (.float .f64 (cleanT x)) ∧ w' = w := by
  have h1 := bits_run x
  have h2 := frombits_run
  have hx' := (wd_iff x).1 hx
  clear hx
  by_cases c1 : 9223372036854775808 ≤ x
  · have h3 : (x : Int) / 9223372036854775808 = 1 := by omega
    have HV : Hid (cleanT x = 0) := by show _ = _; unfold cleanT; rw [d_sw, if_pos (.inl c1)]
    clear c1 hx'
    go_enter Try.func12, Try.ntmps12
    go_wp2
    go_ret
    exact ⟨by rw [HV.out]; rfl, rfl⟩
  · have h3 : (x : Int) / 9223372036854775808 = 0 := by omega
    by_cases c2 : 9218868437227405312 < x
    · have h4 : (9218868437227405312 : Int) < (x : Int) := by omega
      have HV : Hid (cleanT x = 0) := by show _ = _; unfold cleanT; rw [d_inf, if_pos (.inr c2)]
      clear c1 c2 hx'
      go_enter Try.func12, Try.ntmps12
      go_wp2
      go_ret
      exact ⟨by rw [HV.out]; rfl, rfl⟩
    · have h4 : ¬ (9218868437227405312 : Int) < (x : Int) := by omega
      have hr := cleanT_rung x (by rw [d_inf]; omega)
      by_cases c3 : 9218868437227405311 < x
      · have h5 : (9218868437227405311 : Int) < (x : Int) := by omega
        have HV : Hid (cleanT x = 9218868437227405311) := by show _ = _; rw [hr]; unfold MAXR; omega
        clear c1 c2 c3 hx' hr
        go_enter Try.func12, Try.ntmps12
        go_wp2
        go_ret
        exact ⟨by rw [HV.out]; rfl, rfl⟩
      · have h5 : ¬ (9218868437227405311 : Int) < (x : Int) := by omega
        have HV : Hid (cleanT x = x) := by show _ = _; rw [hr]; unfold MAXR; omega
        clear c1 c2 c3 hx' hr
        go_enter Try.func12, Try.ntmps12
        go_wp2
        go_ret
        exact ⟨by rw [HV.out]; rfl, rfl⟩
theorem rplace_any (x : Nat) (hx : Wd x) (w : World) : Calls Try.prog 35 #[.float .f64 x] w fun e w' => e = .returned (.int .i64 (placeT x)) ∧ w' = w := by
  have h1 := bits_run x
  have hx' := (wd_iff x).1 hx
  obtain ⟨r, hr⟩ : ∃ r, r = x % 9223372036854775808 := ⟨_, rfl⟩
  obtain ⟨z, hz⟩ : ∃ z, z = 2 * r := ⟨_, rfl⟩
  have h4 : IntKind.u64.wrap ((x : Int) * 2) = (z : Int) := by rw [IntKind.wrap_u64]; omega
  have h5 : (z : Int) / 2 = (r : Int) := by omega
  have h6 : wrap64 (r : Int) = (r : Int) := by unfold wrap64; omega
  have h7 : wrap64 (-(r : Int)) = -(r : Int) := by unfold wrap64; omega
  by_cases c1 : 9218868437227405312 < r
  · have h8 : (18437736874454810624 : Int) < (z : Int) := by omega
    have HV : Hid (placeT x = 9223372036854775807) := placeT_nan x ((nan_iff x).2 (by rw [d_inf, d_sw, ← hr]; exact c1))
    clear c1 hx' hx hr hz
    go_enter Try.func35, Try.ntmps35
    go_wp2
    go_ret
    exact ⟨by rw [HV.out]; rfl, rfl⟩
  · have h8 : ¬ (18437736874454810624 : Int) < (z : Int) := by omega
    have hp := placeT_num x ((num_iff x).2 (by rw [d_inf, d_sw, ← hr]; omega))
    unfold plc at hp
    rw [d_sw] at hp
    by_cases c2 : 9223372036854775808 ≤ x
    · have h3 : (x : Int) / 9223372036854775808 = 1 := by omega
      have HV : Hid (placeT x = -(r : Int)) := by show _ = _; rw [hp, if_pos c2]; omega
      clear c1 c2 hx' hx hr hz hp
      go_enter Try.func35, Try.ntmps35
      go_wp2
      go_ret
      exact ⟨by rw [HV.out]; rfl, rfl⟩
    · have h3 : (x : Int) / 9223372036854775808 = 0 := by omega
      have h9 : wrap64 (x : Int) = (x : Int) := by unfold wrap64; omega
      have HV : Hid (placeT x = (x : Int)) := by show _ = _; rw [hp, if_neg c2]
      clear c1 c2 hx' hx hr hz hp
      go_enter Try.func35, Try.ntmps35
      go_wp2
      go_ret
      exact ⟨by rw [HV.out]; rfl, rfl⟩
theorem rless_any (x y : Nat) (hx : Wd x) (hy : Wd y) (w : World) : Calls Try.prog 16 #[.float .f64 x, .float .f64 y] w fun e w' => e = .returned (.bool (decide (placeT x < placeT y))) ∧ w' = w := by
  have HP : Hid (∀ x W, Wd x → Calls Try.prog 35 #[.float .f64 x] W fun e w' => e = .returned (.int .i64 (placeT x)) ∧ w' = W) := fun x W h => rplace_any x h W
  have HX : Hid (Wd x) := hx
  have HY : Hid (Wd y) := hy
  clear hx hy
  go_enter Try.func16, Try.ntmps16
  go_wp2_with (go_at_call 35; refine (HP.out _ _ (by first | exact HX.out | exact HY.out)).mono ?_; rintro e w' ⟨rfl, rfl⟩)
  go_ret
  exact ⟨by simp, rfl⟩
theorem nan_run (w : World) : Calls Try.prog 30 #[] w fun e w' => e = .returned (.float .f64 9221120237041090561) ∧ w' = w := by
  have h2 := frombits_run
  go_enter Try.func30, Try.ntmps30
  go_wp2
  go_ret
  exact ⟨by simp, rfl⟩
theorem inf_run (w : World) : Calls Try.prog 31 #[.int .i64 1] w fun e w' => e = .returned (.float .f64 9218868437227405312) ∧ w' = w := by
  have h2 := frombits_run
  go_enter Try.func31, Try.ntmps31
  go_wp2
  go_ret
  exact ⟨by simp, rfl⟩
theorem ninf_run (w : World) : Calls Try.prog 31 #[.int .i64 (-1)] w fun e w' => e = .returned (.float .f64 18442240474082181120) ∧ w' = w := by
  have h2 := frombits_run
  go_enter Try.func31, Try.ntmps31
  go_wp2
  go_ret
  exact ⟨by simp, rfl⟩
theorem isinf_any (x : Nat) (hx : Wd x) (w : World) : Calls Try.prog 14 #[.float .f64 x, .int .i64 1] w fun e w' => e = .returned (.bool (decide (x = double.infRung))) ∧ w' = w := by
  have h1 := order_gtM x hx
  clear hx
  generalize decide (x = double.infRung) = tb at h1 ⊢
  go_enter Try.func14, Try.ntmps14
  go_wp2
  go_ret
  exact ⟨by simp, rfl⟩
theorem signbit_any (x : Nat) (hx : Wd x) (w : World) : Calls Try.prog 13 #[.float .f64 x] w fun e w' => e = .returned (.bool (decide (9223372036854775808 ≤ x))) ∧ w' = w := by
  have h1 := bits_run x
  have hx' := (wd_iff x).1 hx
  clear hx
  have h3 : decide (wrap64 (x : Int) < 0) = decide (9223372036854775808 ≤ x) := by
    apply decide_eq_decide.2
    unfold wrap64
    omega
  generalize decide (9223372036854775808 ≤ x) = tb at h3 ⊢
  clear hx'
  go_enter Try.func13, Try.ntmps13
  go_wp2
  go_ret
  exact ⟨by simp, rfl⟩
end Go.Proofs.Ytnppfibojcgkmaa
