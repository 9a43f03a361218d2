import Derived.Test.YtfbphblodankmaaWAwake
namespace Go.Proofs.Ytfbphblodankmaa
open Go Go.RowKit
set_option maxRecDepth 20000

set_option maxHeartbeats 4000000 in
theorem lawWTakes_any (v : Value) (L : List UInt8) (p s : Int) (w : World) (hL : BSl w v L) (hp : p ≤ 9223372036854775807) :
    Calls Try.prog 4 #[v, .int .i64 p, .int .i64 s] w fun e w' => e = .returned (.bool true) ∧ Below w.heap.size w w' := by
  have CA : Hid (∀ W, Calls Try.prog 9 #[] W fun e w' => e = .returned (.bool true) ∧ Below W.heap.size W w') := awake9_any
  obtain ⟨x, hx⟩ : ∃ x, x = (takeT L p s).1 := ⟨_, rfl⟩
  obtain ⟨y, hy⟩ : ∃ y, y = (takeT L p s).2 := ⟨_, rfl⟩
  have CT : Hid (∀ W, Below w.heap.size w W → Calls Try.prog 13 #[v, .int .i64 p, .int .i64 s] W fun e w' => e = .returned (.tuple #[.int .u64 (x : Int), .int .i64 y]) ∧ w' = W) := fun W hW => by
    rw [hx, hy]; exact take_any v L p s W (hL.below hW) hp
  have CR : Hid (∀ W, Below w.heap.size w W → Calls Try.prog 14 #[v, .int .i64 p, .int .i64 s] W fun e w' => e = .returned (.tuple #[.int .u64 (x : Int), .int .i64 y]) ∧ w' = W) := fun W hW => by
    rw [hx, hy]; exact rtake_any v L p s W (hL.below hW)
  clear hx hy hL
  go_enter Try.func4, Try.ntmps4
  go_wp2_with fail
  refine (CA.out _).mono ?_
  rintro e w1 ⟨rfl, hb⟩
  have HB : Hid (Below w.heap.size w w1) := hb
  clear hb
  go_wp2_with fail
  refine (CT.out _ HB.out).mono ?_
  rintro e w2 ⟨rfl, rfl⟩
  go_wp2_with fail
  refine (CR.out _ HB.out).mono ?_
  rintro e w3 ⟨rfl, rfl⟩
  go_wp2_with fail
  go_ret
  exact ⟨rfl, HB.out⟩
end Go.Proofs.Ytfbphblodankmaa
