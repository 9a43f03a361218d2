import Derived.Test.YtplnlmkmaapbaaaDoorHPlace
namespace Go.Proofs.YtplnlmkmaapbaaaDoor
open Go Go.RowKit

theorem first_in (f : Int) (w : World) (h0 : 0 ≤ f) (h1 : f < 5) : Calls Tryd.prog 25 #[.int .i64 f] w fun e w' => e = .returned (.int .i64 (firstOf f)) ∧ w' = w := by
  rcases (show f = 0 ∨ f = 1 ∨ f = 2 ∨ f = 3 ∨ f = 4 by omega) with h | h | h | h | h
  all_goals
    subst h
    go_enter Tryd.func25, Tryd.ntmps25
    go_wp2
    go_ret
    exact ⟨rfl, rfl⟩
theorem first_no (f : Int) (w : World) (hf : f < 0 ∨ 5 ≤ f) : Calls Tryd.prog 25 #[.int .i64 f] w fun e w' => e = .returned (.int .i64 (-1)) ∧ w' = w := by
  have e0 : (f == 0) = false := by simp; omega
  have e1 : (f == 1) = false := by simp; omega
  have e2 : (f == 2) = false := by simp; omega
  have e3 : (f == 3) = false := by simp; omega
  have e4 : (f == 4) = false := by simp; omega
  go_enter Tryd.func25, Tryd.ntmps25
  go_wp2
  go_ret
  exact ⟨rfl, rfl⟩
theorem width_in (f : Int) (w : World) (h0 : 0 ≤ f) (h1 : f < 5) : Calls Tryd.prog 26 #[.int .i64 f] w fun e w' => e = .returned (.int .i64 (widthOf f)) ∧ w' = w := by
  rcases (show f = 0 ∨ f = 1 ∨ f = 2 ∨ f = 3 ∨ f = 4 by omega) with h | h | h | h | h
  all_goals
    subst h
    go_enter Tryd.func26, Tryd.ntmps26
    go_wp2
    go_ret
    exact ⟨rfl, rfl⟩
end Go.Proofs.YtplnlmkmaapbaaaDoor
