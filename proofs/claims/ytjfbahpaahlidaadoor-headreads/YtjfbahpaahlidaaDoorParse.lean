import Derived.Test.YtjfbahpaahlidaaDoorText
import Derived.Lib.OthersKept
namespace Go.Proofs.YtjfbahpaahlidaaDoor
open Go Go.RowKit

set_option maxHeartbeats 400000 in
theorem len_new (d z : Int) (w : World) : Calls Tryd.prog 35 #[.int .i64 (-1), .int .i64 d, .int .i64 z] w fun e w' => e = .returned (.tuple #[.int .i64 d, .bool true]) ∧ w' = w := by
  go_enter Tryd.func35, Tryd.ntmps35
  go_wp2
  go_ret2
  exact ⟨rfl, rfl⟩

def limOf (k : Nat) : Int := 256 ^ k
set_option maxHeartbeats 400000 in
theorem len_on (n d : Int) (k : Nat) (w : World) (hk : k = 1 ∨ k = 2) (h0 : 1 ≤ n) (h1 : n < 65536) (hd0 : 0 ≤ d) (hd1 : d ≤ 9) (hl : n * 10 + d < limOf k) :
    Calls Tryd.prog 35 #[.int .i64 n, .int .i64 d, .int .i64 (k : Int)] w fun e w' => e = .returned (.tuple #[.int .i64 (n * 10 + d), .bool true]) ∧ w' = w := by
  have hne : (n == -1) = false := by simp; omega
  have hne0 : (n == 0) = false := by simp; omega
  rcases hk with rfl | rfl
  · have hl' : n * 10 + d < 256 := hl
    clear hl
    go_enter Tryd.func35, Tryd.ntmps35
    go_wp2
    go_ret2
    exact ⟨rfl, rfl⟩
  · have hl' : n * 10 + d < 65536 := hl
    clear hl
    go_enter Tryd.func35, Tryd.ntmps35
    go_wp2
    go_ret2
    exact ⟨rfl, rfl⟩
set_option maxHeartbeats 400000 in
theorem len_off (n d : Int) (k : Nat) (w : World) (hk : k = 1 ∨ k = 2) (h0 : 0 ≤ n) (h1 : n < 65536) (hd0 : 0 ≤ d) (hd1 : d ≤ 9) (hl : n = 0 ∨ limOf k ≤ n * 10 + d) :
    Calls Tryd.prog 35 #[.int .i64 n, .int .i64 d, .int .i64 (k : Int)] w fun e w' => e = .returned (.tuple #[.int .i64 0, .bool false]) ∧ w' = w := by
  have hne : (n == -1) = false := by simp; omega
  by_cases hz : n = 0
  · subst hz
    go_enter Tryd.func35, Tryd.ntmps35
    go_wp2
    go_ret2
    exact ⟨rfl, rfl⟩
  · have hne0 : (n == 0) = false := by simpa using hz
    rcases hk with rfl | rfl
    · have hl' : 256 ≤ n * 10 + d := hl.resolve_left hz
      clear hl hz
      go_enter Tryd.func35, Tryd.ntmps35
      go_wp2
      go_ret2
      exact ⟨rfl, rfl⟩
    · have hl' : 65536 ≤ n * 10 + d := hl.resolve_left hz
      clear hl hz
      go_enter Tryd.func35, Tryd.ntmps35
      go_wp2
      go_ret2
      exact ⟨rfl, rfl⟩

/-- What the program makes of the bytes that are left, of the number's place, of the number so far (-1: none), of the header so far. -/
def parseB : List UInt8 → Nat → Int → List Int → Option (List Int)
  | [], i, n, h => if n = -1 ∨ i < 10 then none else some (putN h (pa i) (ps i) n (ps i))
  | b :: r, i, n, h =>
    if 48 ≤ b.toNat ∧ b.toNat ≤ 57 then
      if n = -1 then parseB r i ((b.toNat : Int) - 48) h
      else if n = 0 ∨ limOf (ps i) ≤ n * 10 + ((b.toNat : Int) - 48) then none
      else parseB r i (n * 10 + ((b.toNat : Int) - 48)) h
    else if n = -1 ∨ i = 10 ∨ b ≠ signS.getD i 0 then none
    else parseB r (i + 1) (-1) (putN h (pa i) (ps i) n (ps i))
end Go.Proofs.YtjfbahpaahlidaaDoor
