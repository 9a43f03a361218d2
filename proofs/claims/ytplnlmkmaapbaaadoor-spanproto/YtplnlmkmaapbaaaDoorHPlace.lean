import Derived.Test.YtplnlmkmaapbaaaDoorHPut
namespace Go.Proofs.YtplnlmkmaapbaaaDoor
open Go Go.RowKit

def placesT : List Int := [0, 32, 32, 32, 64, 16, 80, 16, 96, 8]
def firstOf (f : Int) : Int := placesT.getD (2 * f).toNat 0
def widthOf (f : Int) : Int := placesT.getD (2 * f + 1).toNat 0

/-- The table of the fields lies in memory as the program's text lays it. -/
def Places (w : World) : Prop := ∀ k, k < 10 → w.cell? ⟨0, k, none⟩ = some (.int .i64 (placesT.getD k 0))
theorem Places.later {w w' : World} (h : Places w) {B : Nat} (hB : 0 < B) (hb : Below B w w') : Places w' := fun k hk => by
  rw [hb.cell (p := ⟨0, k, none⟩) hB]; exact h k hk
theorem Places.pos {w : World} (h : Places w) : 0 < w.heap.size := World.block_lt_of_cell? w ⟨0, 0, none⟩ (h 0 (by decide))

set_option maxHeartbeats 400000 in
theorem place_no (f : Int) (w : World) (hf : f < 0 ∨ 5 ≤ f) :
    Calls Tryd.prog 31 #[.int .i64 f] w fun e w' => e = .returned (.tuple #[.int .i64 0, .int .i64 0, .int .i64 1]) ∧ w' = w := by
  by_cases h : f < 0
  · go_enter Tryd.func31, Tryd.ntmps31
    go_wp2
    go_ret3
    exact ⟨rfl, rfl⟩
  · have h5 : 5 ≤ f := by omega
    go_enter Tryd.func31, Tryd.ntmps31
    go_wp2
    go_ret3
    exact ⟨rfl, rfl⟩

set_option maxHeartbeats 400000 in
theorem place_in (f : Int) (w : World) (h0 : 0 ≤ f) (h1 : f < 5) (hP : Places w) :
    Calls Tryd.prog 31 #[.int .i64 f] w fun e w' => e = .returned (.tuple #[.int .i64 (firstOf f), .int .i64 (widthOf f), .int .i64 0]) ∧ Below w.heap.size w w' := by
  have c0 := hP 0 (by decide)
  have c1 := hP 1 (by decide)
  have c2 := hP 2 (by decide)
  have c3 := hP 3 (by decide)
  have c4 := hP 4 (by decide)
  have c5 := hP 5 (by decide)
  have c6 := hP 6 (by decide)
  have c7 := hP 7 (by decide)
  have c8 := hP 8 (by decide)
  have c9 := hP 9 (by decide)
  clear hP
  rcases (show f = 0 ∨ f = 1 ∨ f = 2 ∨ f = 3 ∨ f = 4 by omega) with h | h | h | h | h
  all_goals
    subst h
    go_enter Tryd.func31, Tryd.ntmps31
    go_wp2
    go_quiet (fail)
    go_wp2
    go_ret3
    exact ⟨rfl, below_drewN (Below.refl _ _) _⟩
end Go.Proofs.YtplnlmkmaapbaaaDoor
