import Derived.Test.YtnppfibojcgkmaaScRef
namespace Go.Proofs.Ytnppfibojcgkmaa
open Go Go.Lib Go.RowKit Ieee
set_option maxRecDepth 20000

theorem foi (n : Int) (h : 0 ≤ n) : floatOfInt .f64 n = intF n.toNat := by
  have e : floatOfInt .f64 n = double.write (.number (decide (n < 0)) n.natAbs 0) := rfl
  rw [e, decide_eq_false (by omega), write_int, show n.natAbs = n.toNat by omega]
theorem addF (P : Program) (x y : Nat) (hx : x < double.infRung) (hy : y < double.infRung) (t : TypeId) (W : World) : (binOp .add t (.float .f64 x) (.float .f64 y)).run P W = .ok (.float .f64 (addR x y)) W := run_float_arith W .add t .f64 x y _ (add_eq x y hx hy)
theorem mulF (P : Program) (x y : Nat) (hx : x < double.infRung) (hy : y < double.infRung) (t : TypeId) (W : World) : (binOp .mul t (.float .f64 x) (.float .f64 y)).run P W = .ok (.float .f64 (mulR x y)) W := run_float_arith W .mul t .f64 x y _ (mul_eq x y hx hy)
theorem halfM (P : Program) (x : Nat) (hx : x < double.infRung) (t : TypeId) (W : World) : (binOp .mul t (.float .f64 x) (.float .f64 4602678819172646912)).run P W = .ok (.float .f64 (halfR x)) W := run_float_arith W .mul t .f64 x _ _ (mul_half x hx)
theorem halfD (P : Program) (x : Nat) (hx : x < double.infRung) (t : TypeId) (W : World) : (binOp .quo t (.float .f64 x) (.float .f64 4611686018427387904)).run P W = .ok (.float .f64 (halfR x)) W := run_float_arith W .quo t .f64 x _ _ (div_two x hx)
theorem int_lt (n : Int) (h : n ≤ 9223372036854775807) : intF n.toNat < double.infRung := intF_lt _ (by omega)
theorem wd_lt {x : Nat} (h : x < double.infRung) : Wd x := wd_rung (Nat.le_of_lt h)
theorem wd_clean (x : Nat) : Wd (cleanT x) := wd_lt (cleanT_lt x)
/-- Cost. -/
theorem cost_any (load : Int) (v : Nat) (hl : load ≤ 9223372036854775807) (hv : Wd v) (w : World) : Calls Try.prog 21 #[.int .i64 load, .float .f64 v] w fun e w' => e = .returned (.float .f64 (costT load v)) ∧ w' = w := by
  have HC : Hid (∀ x W, Wd x → Calls Try.prog 10 #[.float .f64 x] W fun e w' => e = .returned (.float .f64 (cleanT x)) ∧ w' = W) := fun x W h => clean_any x h W
  have HX : Hid (Wd v) := hv
  by_cases c1 : load < 0
  · have HV : Hid (costT load v = 0) := by show _ = _; unfold costT; rw [if_pos c1]
    clear hl hv
    go_enter Try.func21, Try.ntmps21
    go_wp2
    go_ret
    exact ⟨by rw [HV.out]; rfl, rfl⟩
  · have HV : Hid (costT load v = mulR (intF load.toNat) (addR ONE (cleanT v))) := by show _ = _; unfold costT; rw [if_neg c1]
    have h1 := foi load (by omega)
    have h2 := addF Try.prog ONE (cleanT v) (by rw [d_inf]; decide) (cleanT_lt v)
    have h3 := mulF Try.prog (intF load.toNat) (addR ONE (cleanT v)) (int_lt load hl) (addR_one_lt _ (cleanT_lt v))
    unfold ONE at h2 h3 HV
    generalize costT load v = R at HV ⊢
    generalize intF load.toNat = A at h1 h3 HV
    clear hl hv
    go_enter Try.func21, Try.ntmps21
    go_wp2_with (go_at_call 10; refine (HC.out _ _ HX.out).mono ?_; rintro e w' ⟨rfl, rfl⟩)
    go_ret
    exact ⟨by rw [HV.out]; rfl, rfl⟩
theorem rcost_any (load : Int) (v : Nat) (hl : load ≤ 9223372036854775807) (hv : Wd v) (w : World) : Calls Try.prog 23 #[.int .i64 load, .float .f64 v] w fun e w' => e = .returned (.float .f64 (costT load v)) ∧ w' = w := by
  have HC : Hid (∀ x W, Wd x → Calls Try.prog 12 #[.float .f64 x] W fun e w' => e = .returned (.float .f64 (cleanT x)) ∧ w' = W) := fun x W h => rclean_any x h W
  have HX : Hid (Wd v) := hv
  by_cases c1 : load < 0
  · have HV : Hid (costT load v = 0) := by show _ = _; unfold costT; rw [if_pos c1]
    clear hl hv
    go_enter Try.func23, Try.ntmps23
    go_wp2
    go_ret
    exact ⟨by rw [HV.out]; rfl, rfl⟩
  · have HV : Hid (costT load v = mulR (intF load.toNat) (addR ONE (cleanT v))) := by show _ = _; unfold costT; rw [if_neg c1]
    have h1 := foi load (by omega)
    have h2 := addF Try.prog ONE (cleanT v) (by rw [d_inf]; decide) (cleanT_lt v)
    have h3 := mulF Try.prog (intF load.toNat) (addR ONE (cleanT v)) (int_lt load hl) (addR_one_lt _ (cleanT_lt v))
    unfold ONE at h2 h3 HV
    generalize costT load v = R at HV ⊢
    generalize intF load.toNat = A at h1 h3 HV
    clear hl hv
    go_enter Try.func23, Try.ntmps23
    go_wp2_with (go_at_call 12; refine (HC.out _ _ HX.out).mono ?_; rintro e w' ⟨rfl, rfl⟩)
    go_ret
    exact ⟨by rw [HV.out]; rfl, rfl⟩
/-- Decay. -/
theorem decay_any (old : Nat) (n : Int) (hn : n ≤ 9223372036854775807) (ho : Wd old) (w : World) : Calls Try.prog 24 #[.float .f64 old, .int .i64 n] w fun e w' => e = .returned (.float .f64 (decayT old n)) ∧ w' = w := by
  have HC : Hid (∀ x W, Wd x → Calls Try.prog 10 #[.float .f64 x] W fun e w' => e = .returned (.float .f64 (cleanT x)) ∧ w' = W) := fun x W h => clean_any x h W
  have HX : Hid (Wd old) := ho
  have hl := halfR_le (cleanT old) (Nat.le_of_lt (cleanT_lt old))
  have hc := cleanT_lt old
  have HS : Hid (Wd (addR (halfR (cleanT old)) (intF n.toNat))) := wd_rung (addR_le _ _)
  have h2 := halfD Try.prog (cleanT old) hc
  have h3 := addF Try.prog (halfR (cleanT old)) (intF n.toNat) (by omega) (int_lt n hn)
  have h1 : floatOfInt .f64 (max n 0) = intF n.toNat := by rw [foi _ (by omega), show (max n 0).toNat = n.toNat by omega]
  have HV : Hid (decayT old n = cleanT (addR (halfR (cleanT old)) (intF n.toNat))) := rfl
  generalize decayT old n = R at HV ⊢
  generalize intF n.toNat = A at h1 h3 HV HS
  by_cases c1 : n < 0
  · have e : max n 0 = 0 := by omega
    rw [e] at h1
    clear hl hc hn ho
    go_enter Try.func24, Try.ntmps24
    go_wp2_with (first | (go_at_call 10; refine (HC.out _ _ (by first | exact HX.out | exact HS.out)).mono ?_; rintro e w' ⟨rfl, rfl⟩))
    go_ret
    exact ⟨by rw [HV.out]; rfl, rfl⟩
  · have e : max n 0 = n := by omega
    rw [e] at h1
    clear hl hc hn ho
    go_enter Try.func24, Try.ntmps24
    go_wp2_with (first | (go_at_call 10; refine (HC.out _ _ (by first | exact HX.out | exact HS.out)).mono ?_; rintro e w' ⟨rfl, rfl⟩))
    go_ret
    exact ⟨by rw [HV.out]; rfl, rfl⟩
theorem rdecay_any (old : Nat) (n : Int) (hn : n ≤ 9223372036854775807) (ho : Wd old) (w : World) : Calls Try.prog 25 #[.float .f64 old, .int .i64 n] w fun e w' => e = .returned (.float .f64 (decayT old n)) ∧ w' = w := by
  have HC : Hid (∀ x W, Wd x → Calls Try.prog 12 #[.float .f64 x] W fun e w' => e = .returned (.float .f64 (cleanT x)) ∧ w' = W) := fun x W h => rclean_any x h W
  have HX : Hid (Wd old) := ho
  have hl := halfR_le (cleanT old) (Nat.le_of_lt (cleanT_lt old))
  have hc := cleanT_lt old
  have HS : Hid (Wd (addR (halfR (cleanT old)) (intF n.toNat))) := wd_rung (addR_le _ _)
  have h2 := halfM Try.prog (cleanT old) hc
  have h3 := addF Try.prog (halfR (cleanT old)) (intF n.toNat) (by omega) (int_lt n hn)
  have h1 : floatOfInt .f64 (max n 0) = intF n.toNat := by rw [foi _ (by omega), show (max n 0).toNat = n.toNat by omega]
  have HV : Hid (decayT old n = cleanT (addR (halfR (cleanT old)) (intF n.toNat))) := rfl
  generalize decayT old n = R at HV ⊢
  generalize intF n.toNat = A at h1 h3 HV HS
  by_cases c1 : n < 0
  · have e : max n 0 = 0 := by omega
    rw [e] at h1
    clear hl hc hn ho
    go_enter Try.func25, Try.ntmps25
    go_wp2_with (first | (go_at_call 12; refine (HC.out _ _ (by first | exact HX.out | exact HS.out)).mono ?_; rintro e w' ⟨rfl, rfl⟩))
    go_ret
    exact ⟨by rw [HV.out]; rfl, rfl⟩
  · have e : max n 0 = n := by omega
    rw [e] at h1
    clear hl hc hn ho
    go_enter Try.func25, Try.ntmps25
    go_wp2_with (first | (go_at_call 12; refine (HC.out _ _ (by first | exact HX.out | exact HS.out)).mono ?_; rintro e w' ⟨rfl, rfl⟩))
    go_ret
    exact ⟨by rw [HV.out]; rfl, rfl⟩
end Go.Proofs.Ytnppfibojcgkmaa
