import Derived.Test.YtfbphblodankmaaSplit
import Derived.Lib.BitFns
namespace Go.Proofs.Ytfbphblodankmaa
open Go Go.RowKit
set_option maxRecDepth 20000

/-- How many bits of a byte are one. -/
def ones (x : Int) : Int := ((List.range 8).filter fun j => yb x j).length

theorem ones_fin : ∀ n : Fin 256, ones (n.val : Int) = (Lib.onesCount n.val : Int) := by decide +kernel
theorem ones_bd : ∀ n : Fin 256, 0 ≤ ones (n.val : Int) ∧ ones (n.val : Int) ≤ 8 := by decide +kernel
theorem ones_le (x : Int) (h0 : 0 ≤ x) (h1 : x < 256) : 0 ≤ ones x ∧ ones x ≤ 8 := by
  have := ones_bd ⟨x.toNat, by omega⟩
  simpa only [Int.toNat_of_nonneg h0] using this

theorem run_idx (L : List Int) (hL : L.length = 13) (k : Nat) (hk : k < 13) (w : World) : (Instr.index 34 (.agg (hv L)) (.int .i64 (k : Int))).run Try.prog w = .ok (.int .u8 (L.getD k 0)) w := by
  have hx := hv_at L hL k hk
  have hz : ∀ w, (sizeOf 5).run Try.prog w = .ok 1 w := fun w => by kernel_rfl
  simp [Instr.index, run_underlying Try.underlying34, asIntOf, go_sem, hz, hx, hk]

/-- How many of the first k bytes' bits are one. -/
def onesN (M : List Int) : Nat → Int
  | 0 => 0
  | k + 1 => onesN M k + ones (M.getD k 0)
theorem onesN_bd (M : List Int) (hM : Byt M) : ∀ k, 0 ≤ onesN M k ∧ onesN M k ≤ 8 * k
  | 0 => by simp [onesN]
  | k + 1 => by
    have := onesN_bd M hM k
    have := ones_le (M.getD k 0) (hM.2 k).1 (hM.2 k).2
    simp only [onesN]
    omega
/-- How many bits of a cube are free. -/
def free (M : List Int) : Int := ((List.range 104).filter fun i => !(bt M i)).length

theorem filter_not_len {α : Type} (p : α → Bool) (l : List α) : (l.filter fun i => !(p i)).length + (l.filter p).length = l.length := by
  induction l with
  | nil => rfl
  | cons a l ih => cases h : p a <;> simp [h] <;> omega

theorem range_add_filter (p : Nat → Bool) (n m : Nat) : ((List.range (n + m)).filter p).length = ((List.range n).filter p).length + ((List.range m).filter fun j => p (n + j)).length := by
  rw [List.range_add, List.filter_append, List.length_append, List.filter_map, List.length_map]
  rfl

theorem onesN_eq (M : List Int) : ∀ k, onesN M k = (((List.range (8 * k)).filter fun i => bt M i).length : Int)
  | 0 => rfl
  | k + 1 => by
    rw [show 8 * (k + 1) = 8 * k + 8 by omega, range_add_filter, onesN, onesN_eq M k]
    have : (fun j => bt M (8 * k + j)) = fun j => yb (M.getD ((8 * k + j) / 8) 0) ((8 * k + j) % 8) := rfl
    have e : ((List.range 8).filter fun j => bt M (8 * k + j)) = ((List.range 8).filter fun j => yb (M.getD k 0) j) := by
      apply List.filter_congr
      intro j hj
      have hj' : j < 8 := List.mem_range.1 hj
      unfold bt
      rw [show (8 * k + j) / 8 = k by omega, show (8 * k + j) % 8 = j by omega]
    rw [e]
    unfold ones
    push_cast
    rfl
theorem free_eq (M : List Int) : 104 - onesN M 13 = free M := by
  rw [onesN_eq, show 8 * 13 = 104 from rfl]
  unfold free
  have := filter_not_len (fun i => bt M i) (List.range 104)
  rw [List.length_range] at this
  omega

end Go.Proofs.Ytfbphblodankmaa
