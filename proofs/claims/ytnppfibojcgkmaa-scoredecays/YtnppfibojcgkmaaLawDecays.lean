import Derived.Test.YtnppfibojcgkmaaLawCosts
namespace Go.Proofs.Ytnppfibojcgkmaa
open Go Go.Lib Go.RowKit Ieee
set_option maxRecDepth 20000

theorem decayT_lt (x : Nat) (n : Int) : decayT x n < double.infRung := cleanT_lt _
set_option maxHeartbeats 8000000 in
set_option maxRecDepth 100000 in
theorem lawDecays_any (old : Nat) (n : Int) (hn : n ≤ 9223372036854775807) (ho : Wd old) (w : World) : Calls Try.prog 7 #[.float .f64 old, .int .i64 n] w fun e w' => e = .returned (.bool true) ∧ Below w.heap.size w w' := by
  have HA : Hid (∀ W, Calls Try.prog 9 #[] W fun e w' => e = .returned (.bool true) ∧ Below W.heap.size W w') := awake_any
  obtain ⟨x, hx⟩ : ∃ x, x = decayT old n := ⟨_, rfl⟩
  have hxl : x < double.infRung := by rw [hx]; exact decayT_lt _ _
  have HD : Hid (∀ W, Calls Try.prog 24 #[.float .f64 old, .int .i64 n] W fun e w' => e = .returned (.float .f64 x) ∧ w' = W) := fun W => by rw [hx]; exact decay_any old n hn ho W
  have HD0 : Hid (∀ r W, r < double.infRung → Calls Try.prog 24 #[.float .f64 r, .int .i64 0] W fun e w' => e = .returned (.float .f64 (halfR r)) ∧ w' = W) := fun r W h => by
    have := decay_any r 0 (by decide) (wd_lt h) W
    rw [decayT_zero r h] at this; exact this
  have HR : Hid (∀ W, Calls Try.prog 25 #[.float .f64 old, .int .i64 n] W fun e w' => e = .returned (.float .f64 x) ∧ w' = W) := fun W => by rw [hx]; exact rdecay_any old n hn ho W
  have HS : Hid (∀ W, Calls Try.prog 11 #[.float .f64 x, .float .f64 x] W fun e w' => e = .returned (.bool true) ∧ w' = W) := fun W => by
    have := same_any x x W
    rw [decide_eq_true rfl] at this; exact this
  have HI : Hid (∀ W, Calls Try.prog 14 #[.float .f64 x, .int .i64 1] W fun e w' => e = .returned (.bool false) ∧ w' = W) := fun W => by
    have := isinf_any x (wd_lt hxl) W
    rw [decide_eq_false (by omega)] at this; exact this
  have q1 := geq_r x 0 (by omega) (Nat.zero_le _) (Nat.zero_le _)
  have HH : Hid (halfN 2200 x = 0 ∧ x < double.infRung) := ⟨halfN_2200 x hxl, hxl⟩
  clear hx hxl hn ho
  go_enter Try.func7, Try.ntmps7
  go_wp2_with (first
    | (go_at_call 9; refine (HA.out _).mono ?_; rintro e w1 ⟨rfl, hb⟩)
    | (go_at_call 24; refine (HD.out _).mono ?_; rintro e w' ⟨rfl, rfl⟩)
    | (go_at_call 25; refine (HR.out _).mono ?_; rintro e w' ⟨rfl, rfl⟩)
    | (go_at_call 11; refine (HS.out _).mono ?_; rintro e w' ⟨rfl, rfl⟩)
    | (go_at_call 14; refine (HI.out _).mono ?_; rintro e w' ⟨rfl, rfl⟩))
  have HB : Hid (Below w.heap.size w w') := hb
  clear hb
  obtain ⟨W0, hW0⟩ : ∃ W, W = w' := ⟨_, rfl⟩
  rw [← hW0] at HB ⊢
  clear hW0
  go_loop [5, 6] (fun a i => ∃ k r : Nat, k ≤ 2200 ∧ i = .int .i64 (k : Int) ∧ a = .float .f64 r ∧ Hid (halfN (2200 - k) r = 0 ∧ r < double.infRung)) (fun _ i => 2200 - (intOf i).toNat)
  case atStart => exact ⟨0, x, Nat.zero_le _, rfl, rfl, HH⟩
  case round =>
    obtain ⟨k, r, hk, rfl, rfl, HK⟩ := hrel
    by_cases hlt : k < 2200
    · have hlt' : (k : Int) < 2200 := by omega
      have HK2 : Hid (halfN (2200 - (k + 1)) (halfR r) = 0 ∧ halfR r < double.infRung) := by
        obtain ⟨h1, h2⟩ := HK.out
        rw [show 2200 - k = (2200 - (k + 1)) + 1 by omega, halfN] at h1
        have := halfR_le r (by omega)
        exact ⟨h1, by omega⟩
      go_wp2_with (go_at_call 24; refine (HD0.out _ _ HK.out.2).mono ?_; rintro e w' ⟨rfl, rfl⟩)
      exact ⟨⟨k + 1, halfR r, by omega, by go_num, rfl, HK2⟩, by simp [intOf]; omega⟩
    · have hlt' : ¬ (k : Int) < 2200 := by omega
      obtain rfl : k = 2200 := by omega
      have e0 : r = 0 := HK.out.1
      have q2 := eq0 r HK.out.2
      rw [decide_eq_true e0] at q2
      clear e0
      go_wp2_with fail
      go_ret
      exact ⟨rfl, HB.out⟩
end Go.Proofs.Ytnppfibojcgkmaa
