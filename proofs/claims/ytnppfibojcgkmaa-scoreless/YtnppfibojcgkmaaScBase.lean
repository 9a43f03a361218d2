import Derived.Test.YtnppfibojcgkmaaBase
import Derived.Test.YtnppfibojcgkmaaFPlace
import Derived.Laws.Externs
import Derived.Lib.Hide
namespace Go.Proofs.Ytnppfibojcgkmaa
open Go Go.Lib Go.RowKit Ieee
set_option maxRecDepth 20000

theorem f64d : FloatKind.f64.format = double := rfl
/-- A word's bits. -/
def Wd (x : Nat) : Prop := x < 2 * double.signWeight
theorem wd_iff (x : Nat) : Wd x ↔ x < 18446744073709551616 := by unfold Wd; rw [d_sw]
theorem wd_rung {x : Nat} (h : x ≤ double.infRung) : Wd x := by rw [wd_iff]; rw [d_inf] at h; omega
theorem nan_iff (x : Nat) : isN double x = true ↔ double.infRung < x % double.signWeight := by unfold isN; simp
theorem num_iff (x : Nat) : isN double x = false ↔ x % double.signWeight ≤ double.infRung := by unfold isN; simp
theorem order_gt0 (x : Nat) (hx : Wd x) : (FloatKind.f64.format.order x 0 == some Ordering.gt) = decide (0 < x ∧ x ≤ double.infRung) := by
  rw [f64d]
  have h2 := double.infRung_lt
  cases hn : isN double x with
  | true =>
    rw [order_nan double dE x 0 (.inl hn)]
    have h := (nan_iff x).1 hn
    have : ¬ (0 < x ∧ x ≤ double.infRung) := fun ⟨_, h3⟩ => by rw [Nat.mod_eq_of_lt (by omega)] at h; omega
    rw [decide_eq_false this]; rfl
  | false =>
    have h := (num_iff x).1 hn
    rw [order_word double dE x 0 hx (by rw [d_sw]; decide) hn (rung_num 0 (Nat.zero_le _)).1, (rung_num 0 (Nat.zero_le _)).2, some_gt]
    apply decide_eq_decide.2
    unfold plc
    by_cases hs : double.signWeight ≤ x
    · rw [if_pos hs]; omega
    · rw [if_neg hs]
      rw [Nat.mod_eq_of_lt (by omega)] at h
      omega
theorem order_gtM (x : Nat) (hx : Wd x) : (FloatKind.f64.format.order x 9218868437227405311 == some Ordering.gt) = decide (x = double.infRung) := by
  rw [f64d]
  have h2 := double.infRung_lt
  have hm : (9218868437227405311 : Nat) + 1 = double.infRung := max_inf
  cases hn : isN double x with
  | true =>
    rw [order_nan double dE x _ (.inl hn)]
    have h := (nan_iff x).1 hn
    have : ¬ (x = double.infRung) := fun h3 => by rw [Nat.mod_eq_of_lt (by omega)] at h; omega
    rw [decide_eq_false this]; rfl
  | false =>
    have h := (num_iff x).1 hn
    have hr := rung_num 9218868437227405311 (by omega)
    rw [order_word double dE x _ hx (by rw [d_sw]; decide) hn hr.1, hr.2, some_gt]
    apply decide_eq_decide.2
    unfold plc
    by_cases hs : double.signWeight ≤ x
    · rw [if_pos hs]; omega
    · rw [if_neg hs]
      rw [Nat.mod_eq_of_lt (by omega)] at h
      omega
theorem order_self (x : Nat) (hx : Wd x) : (FloatKind.f64.format.order x x == some Ordering.eq) = !(isN double x) := by
  rw [f64d]
  cases hn : isN double x with
  | true => rw [order_nan double dE x _ (.inl hn)]; rfl
  | false => rw [order_word double dE x x hx hx hn hn, some_eq]; simp
theorem cleanT_none (x : Nat) (h : ¬ (0 < x ∧ x ≤ double.infRung)) : cleanT x = 0 := by
  unfold cleanT
  split
  · rfl
  · omega
theorem clean_any (x : Nat) (hx : Wd x) (w : World) : Calls Try.prog 10 #[.float .f64 x] w fun e w' => e = .returned (.float .f64 (cleanT x)) ∧ w' = w := by
  have h1 := order_gt0 x hx
  have h2 := order_gtM x hx
  have hm : (9218868437227405311 : Nat) + 1 = double.infRung := max_inf
  by_cases c1 : 0 < x ∧ x ≤ double.infRung
  · rw [decide_eq_true c1] at h1
    by_cases c2 : x = double.infRung
    · have HV : Hid (cleanT x = 9218868437227405311) := by show _ = _; rw [cleanT_rung x c1.2]; unfold MAXR; omega
      rw [decide_eq_true c2] at h2
      clear c1 c2 hx hm
      go_enter Try.func10, Try.ntmps10
      go_wp2
      go_ret
      exact ⟨by rw [HV.out]; rfl, rfl⟩
    · have HV : Hid (cleanT x = x) := cleanT_fix x (by omega)
      rw [decide_eq_false c2] at h2
      clear c1 c2 hx hm
      go_enter Try.func10, Try.ntmps10
      go_wp2
      go_ret
      exact ⟨by rw [HV.out]; rfl, rfl⟩
  · have HV : Hid (cleanT x = 0) := cleanT_none x c1
    rw [decide_eq_false c1] at h1
    clear c1 hx hm h2
    go_enter Try.func10, Try.ntmps10
    go_wp2
    go_ret
    exact ⟨by rw [HV.out]; rfl, rfl⟩
theorem isnan_any (x : Nat) (hx : Wd x) (w : World) : Calls Try.prog 17 #[.float .f64 x] w fun e w' => e = .returned (.bool (isN double x)) ∧ w' = w := by
  have h1 := order_self x hx
  clear hx
  generalize isN double x = b at h1 ⊢
  cases b
  · go_enter Try.func17, Try.ntmps17
    go_wp2
    go_ret
    exact ⟨by simpa using h1, rfl⟩
  · go_enter Try.func17, Try.ntmps17
    go_wp2
    go_ret
    exact ⟨by simpa using h1, rfl⟩
theorem order_lss (x y : Nat) (hx : Wd x) (hy : Wd y) : (FloatKind.f64.format.order x y == some Ordering.lt) = (!(isN double x) && !(isN double y) && decide (placeT x < placeT y)) := by
  rw [f64d]
  cases h : isN double x with
  | true => rw [order_nan double dE x y (.inl h)]; rfl
  | false =>
    cases h' : isN double y with
    | true => rw [order_nan double dE x y (.inr h')]; rfl
    | false => rw [order_place x y hx hy h h', some_lt]; simp
/-- Less. -/
theorem less_any (x y : Nat) (hx : Wd x) (hy : Wd y) (w : World) : Calls Try.prog 15 #[.float .f64 x, .float .f64 y] w fun e w' => e = .returned (.bool (decide (placeT x < placeT y))) ∧ w' = w := by
  have HN : Hid (∀ x W, Wd x → Calls Try.prog 17 #[.float .f64 x] W fun e w' => e = .returned (.bool (isN double x)) ∧ w' = W) := fun x W h => isnan_any x h W
  have HX : Hid (Wd x) := hx
  have HY : Hid (Wd y) := hy
  have h1 := order_lss x y hx hy
  cases hn : isN double x with
  | true =>
    have HV : Hid (decide (placeT x < placeT y) = false) := decide_eq_false (less_nan x y hy hn)
    rw [hn] at h1
    clear hx hy
    go_enter Try.func15, Try.ntmps15
    go_wp2_with (go_at_call 17; refine (HN.out _ _ (by first | exact HX.out | exact HY.out)).mono ?_; rintro e w' ⟨rfl, rfl⟩; try rw [hn])
    go_ret
    exact ⟨by rw [HV.out]; rfl, rfl⟩
  | false =>
    cases hn' : isN double y with
    | true =>
      have HV : Hid (decide (placeT x < placeT y) = true) := decide_eq_true (less_num_nan x y hx hn hn')
      rw [hn, hn'] at h1
      clear hx hy
      go_enter Try.func15, Try.ntmps15
      go_wp2_with (go_at_call 17; refine (HN.out _ _ (by first | exact HX.out | exact HY.out)).mono ?_; rintro e w' ⟨rfl, rfl⟩; try (first | rw [hn] | rw [hn']))
      go_ret
      exact ⟨by rw [HV.out]; rfl, rfl⟩
    | false =>
      rw [hn, hn'] at h1
      clear hx hy
      generalize decide (placeT x < placeT y) = tb at h1 ⊢
      simp only [Bool.not_false, Bool.true_and] at h1
      go_enter Try.func15, Try.ntmps15
      go_wp2_with (go_at_call 17; refine (HN.out _ _ (by first | exact HX.out | exact HY.out)).mono ?_; rintro e w' ⟨rfl, rfl⟩; try (first | rw [hn] | rw [hn']))
      go_ret
      exact ⟨by rfl, rfl⟩
end Go.Proofs.Ytnppfibojcgkmaa
