import Derived.Test.YtjlghkiplapodaaAwake3
import Derived.Test.YtjlghkiplapodaaRefApart
import Derived.Test.YtjlghkiplapodaaRefSame
namespace Go.Proofs.Ytjlghkiplapodaa
open Go Go.RowKit

theorem wl_min {ops : Array Oper} {rest : List Oper} {o : Oper} {a : Act} {w : World} {Q : Exit → Act → World → Prop} (hgd : o.guard = none) (x y : Operand) (ho : o.op = .call { callee := .builtin .min, args := #[x, y], argTypes := #[3, 3] })
    (n k : Nat) (hx : a.eval x = .int .i64 n) (hy : a.eval y = .int .i64 40) (hk : k = min n 40) (h : wpList Try.prog ops Q rest (a.put o.dst (.int .i64 k)) w) : wpList Try.prog ops Q (o :: rest) a w := by
  obtain ⟨dst, op, ty, pos, after, guard⟩ := o
  subst ho
  have hr : (execOp a.eval ⟨dst, .call { callee := .builtin .min, args := #[x, y], argTypes := #[3, 3] }, ty, pos, after, guard⟩).run Try.prog w = .ok (.value (.int .i64 k)) w := by
    subst hk
    by_cases h1 : 40 < n
    · have e : ((min n 40 : Nat) : Int) = 40 := by omega
      have h4 : ¬ (n : Int) ≤ 40 := by omega
      rw [e]
      unfold execOp
      simp [resolve, invoke, builtin, hx, hy, Builtin.min_, Builtin.min2, h4]
    · have e : ((min n 40 : Nat) : Int) = n := by omega
      rw [e]
      unfold execOp
      simp [resolve, invoke, builtin, hx, hy, Builtin.min_, Builtin.min2]
      omega
  refine wpList_plain hgd fun K hK => ?_
  unfold Oper.wp
  rw [hr]
  exact hK _ _ h
/-- The first forty at most. -/
theorem Sl.cut {w : World} {o : Option Addr} {n cap : Nat} {C : List (List Int × List Int)} (h : Sl w (.slice o n cap) C) (k : Nat) (hk : k = min n 40) : Sl w (.slice o k cap) (C.take k) := h.take k (by omega)
theorem cut_len {C : List (List Int × List Int)} {k : Nat} (hk : k ≤ 40) : (C.take k).length ≤ 1000000 := by rw [List.length_take]; omega
end Go.Proofs.Ytjlghkiplapodaa
