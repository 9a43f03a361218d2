import Derived.Test.YtnppfibojcgkmaaLawCleans
import Derived.Test.YtnppfibojcgkmaaFTwo
namespace Go.Proofs.Ytnppfibojcgkmaa
open Go Go.Lib Go.RowKit Ieee
set_option maxRecDepth 20000

theorem max_rung (x y : Nat) (hx : x < double.infRung) (hy : y < double.infRung) : Extern.MathDim.pick "math.archMax" false .gt #[.float .f64 x, .float .f64 y] = pure (.float .f64 (max x y)) := by
  obtain ⟨m, i, e1, h1, h2, h5⟩ := read_rung double x hx
  obtain ⟨n, j, e2, h3, h4, h6⟩ := read_rung double y hy
  have a1 : FloatKind.f64.decode x = .number false m i := e1
  have a2 : FloatKind.f64.decode y = .number false n j := e2
  have ho : (Datum.number false m i).order (.number false n j) = some (compare (x : Int) (y : Int)) := by
    rw [← order_rung x y (Nat.le_of_lt hx) (Nat.le_of_lt hy), ← e1, ← e2]; rfl
  suffices h : ∃ R, Extern.MathDim.pick "math.archMax" false .gt #[.float .f64 x, .float .f64 y] = pure (.float .f64 R) ∧ R = max x y by
    obtain ⟨R, h7, h8⟩ := h
    rw [h7, h8]
  refine ⟨_, rfl, ?_⟩
  simp only [a1, a2, ho]
  have g := some_gt (x : Int) (y : Int)
  have b1 : ((Datum.number false m i) == Datum.infinity false) = false := rfl
  have b2 : ((Datum.number false n j) == Datum.infinity false) = false := rfl
  rw [b1, b2, g]
  by_cases hz : m = 0 ∧ n = 0
  · obtain ⟨rfl, rfl⟩ := hz
    obtain rfl := h5.1 rfl
    obtain rfl := h6.1 rfl
    rfl
  · have hzz : ((Datum.number false m i).isZero && (Datum.number false n j).isZero) = false := by
      cases m with
      | zero =>
        cases n with
        | zero => exact absurd ⟨rfl, rfl⟩ hz
        | succ n => rfl
      | succ m => rfl
    have hnn : ((Datum.number false m i).isNaN || (Datum.number false n j).isNaN) = false := rfl
    rw [hzz, hnn]
    by_cases hc : (y : Int) < (x : Int)
    · rw [decide_eq_true hc, Nat.max_eq_left (by omega)]; rfl
    · rw [decide_eq_false hc, Nat.max_eq_right (by omega)]; rfl
theorem archMax_run (x y : Nat) (hx : x < double.infRung) (hy : y < double.infRung) (w : World) : (callFunc 38 #[.float .f64 x, .float .f64 y]).run Try.prog w = .ok (.value (.float .f64 (max x y))) w := by
  rw [run_callFunc_extern (e := Extern.MathDim.pick "math.archMax" false .gt) Try.func38 (by kernel_rfl) (by kernel_rfl) (by kernel_rfl) (by kernel_rfl), max_rung x y hx hy]
  rfl
theorem max_any (x y : Nat) (hx : x < double.infRung) (hy : y < double.infRung) (w : World) : Calls Try.prog 22 #[.float .f64 x, .float .f64 y] w fun e w' => e = .returned (.float .f64 (max x y)) ∧ w' = w := by
  have h1 := archMax_run x y hx hy
  generalize max x y = m at h1 ⊢
  clear hx hy
  go_enter Try.func22, Try.ntmps22
  go_wp2
  go_ret
  exact ⟨rfl, rfl⟩
theorem geq_r (a b : Nat) (ha : a ≤ double.infRung) (hb : b ≤ double.infRung) (h : b ≤ a) : (FloatKind.f64.format.order a b == some Ordering.gt || FloatKind.f64.format.order a b == some Ordering.eq) = true := by
  obtain ⟨_, h1, h2⟩ := ord_r a b ha hb
  rw [h1, h2]
  rcases Nat.eq_or_lt_of_le h with e | e
  · rw [decide_eq_true e.symm]; simp
  · rw [decide_eq_true e]; rfl
set_option maxHeartbeats 8000000 in
set_option maxRecDepth 100000 in
theorem lawCosts_any (load more : Int) (u v : Nat) (hl : load ≤ 9223372036854775807) (hm : more ≤ 9223372036854775807) (hu : Wd u) (hv : Wd v) (w : World) : Calls Try.prog 6 #[.int .i64 load, .int .i64 more, .float .f64 u, .float .f64 v] w fun e w' => e = .returned (.bool true) ∧ Below w.heap.size w w' := by
  have HA : Hid (∀ W, Calls Try.prog 9 #[] W fun e w' => e = .returned (.bool true) ∧ Below W.heap.size W w') := awake_any
  have HK : Hid (∀ n x W, n ≤ 9223372036854775807 → Wd x → Calls Try.prog 21 #[.int .i64 n, .float .f64 x] W fun e w' => e = .returned (.float .f64 (costT n x)) ∧ w' = W) := fun n x W h h' => cost_any n x h h' W
  have HC : Hid (∀ x W, Wd x → Calls Try.prog 10 #[.float .f64 x] W fun e w' => e = .returned (.float .f64 (cleanT x)) ∧ w' = W) := fun x W h => clean_any x h W
  have HM : Hid (∀ W, Calls Try.prog 22 #[.float .f64 (cleanT u), .float .f64 (cleanT v)] W fun e w' => e = .returned (.float .f64 (max (cleanT u) (cleanT v))) ∧ w' = W) := fun W => max_any _ _ (cleanT_lt u) (cleanT_lt v) W
  have HR : Hid (∀ W, Calls Try.prog 23 #[.int .i64 load, .float .f64 u] W fun e w' => e = .returned (.float .f64 (costT load u)) ∧ w' = W) := fun W => rcost_any load u hl hu W
  have HS : Hid (∀ a W, Calls Try.prog 11 #[.float .f64 a, .float .f64 a] W fun e w' => e = .returned (.bool true) ∧ w' = W) := fun a W => by
    have := same_any a a W
    rw [decide_eq_true rfl] at this; exact this
  have HN : Hid (∀ W, Calls Try.prog 17 #[.float .f64 (costT load u)] W fun e w' => e = .returned (.bool false) ∧ w' = W) := fun W => by
    have := isnan_any (costT load u) (wd_rung (costT_le load u)) W
    rw [(rung_num _ (costT_le load u)).1] at this; exact this
  have HX : Hid (Wd u) := hu
  have HY : Hid (Wd v) := hv
  have HM2 : Hid (Wd (max (cleanT u) (cleanT v))) := wd_lt (by have := cleanT_lt u; have := cleanT_lt v; omega)
  have q1 := geq_r (costT load u) 0 (costT_le load u) (Nat.zero_le _) (Nat.zero_le _)
  have q3 := geq_r (costT load (max (cleanT u) (cleanT v))) (costT load u) (costT_le _ _) (costT_le _ _) (costT_weight load (by
    have h1 := cleanT_lt u
    have h2 := cleanT_lt v
    rw [cleanT_fix (max (cleanT u) (cleanT v)) (by omega)]
    omega))
  have HL : Hid (load ≤ 9223372036854775807) := hl
  have HG : Hid (more ≤ 9223372036854775807) := hm
  by_cases c1 : load ≤ more
  · have q2 := geq_r (costT more u) (costT load u) (costT_le _ _) (costT_le _ _) (costT_load u c1)
    have em : max load more = more := by omega
    clear hl hm hu hv
    go_enter Try.func6, Try.ntmps6
    go_wp2_with (first
      | (go_at_call 9; refine (HA.out _).mono ?_; rintro e w1 ⟨rfl, hb⟩)
      | (go_at_call 21; refine (HK.out _ _ _ (by first | exact HL.out | exact HG.out) (by first | exact HX.out | exact HM2.out)).mono ?_; rintro e w' ⟨rfl, rfl⟩)
      | (go_at_call 10; refine (HC.out _ _ (by first | exact HX.out | exact HY.out)).mono ?_; rintro e w' ⟨rfl, rfl⟩)
      | (go_at_call 22; refine (HM.out _).mono ?_; rintro e w' ⟨rfl, rfl⟩)
      | (go_at_call 23; refine (HR.out _).mono ?_; rintro e w' ⟨rfl, rfl⟩)
      | (go_at_call 11; refine (HS.out _ _).mono ?_; rintro e w' ⟨rfl, rfl⟩)
      | (go_at_call 17; refine (HN.out _).mono ?_; rintro e w' ⟨rfl, rfl⟩))
    go_ret
    exact ⟨rfl, hb⟩
  · have q2 := geq_r (costT load u) (costT load u) (costT_le _ _) (costT_le _ _) (Nat.le_refl _)
    have em : max load more = load := by omega
    clear hl hm hu hv
    go_enter Try.func6, Try.ntmps6
    go_wp2_with (first
      | (go_at_call 9; refine (HA.out _).mono ?_; rintro e w1 ⟨rfl, hb⟩)
      | (go_at_call 21; refine (HK.out _ _ _ (by first | exact HL.out | exact HG.out) (by first | exact HX.out | exact HM2.out)).mono ?_; rintro e w' ⟨rfl, rfl⟩)
      | (go_at_call 10; refine (HC.out _ _ (by first | exact HX.out | exact HY.out)).mono ?_; rintro e w' ⟨rfl, rfl⟩)
      | (go_at_call 22; refine (HM.out _).mono ?_; rintro e w' ⟨rfl, rfl⟩)
      | (go_at_call 23; refine (HR.out _).mono ?_; rintro e w' ⟨rfl, rfl⟩)
      | (go_at_call 11; refine (HS.out _ _).mono ?_; rintro e w' ⟨rfl, rfl⟩)
      | (go_at_call 17; refine (HN.out _).mono ?_; rintro e w' ⟨rfl, rfl⟩))
    go_ret
    exact ⟨rfl, hb⟩
end Go.Proofs.Ytnppfibojcgkmaa
