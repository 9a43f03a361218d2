import Derived.Test.YtfamnloobmdhdaaDoorJ20
import Derived.Test.YtfamnloobmdhdaaDoorJ17
namespace Go.Proofs.YtfamnloobmdhdaaDoor
open Go Go.RowKit
set_option maxRecDepth 20000

end Go.Proofs.YtfamnloobmdhdaaDoor
namespace Go.Proofs.YtfamnloobmdhdaaDoor
open Go Go.RowKit
set_option maxRecDepth 20000

end Go.Proofs.YtfamnloobmdhdaaDoor
namespace Go.Proofs.YtfamnloobmdhdaaDoor
open Go Go.RowKit
set_option maxRecDepth 20000

theorem check_code (size : Int) : ∀ (l : List Raw) (i : Nat) (had : Bool) (e : Nat) (p : Int), checkGo size i had l = .error (e, p) → e ≠ 0
  | [], i, had, e, p, h => by
    rw [check_nil] at h
    split at h
    · cases h
    · simp only [Except.error.injEq, Prod.mk.injEq] at h; omega
  | r :: l, i, had, e, p, h => by
    by_cases hz : (rowF i had r).1 = 0
    · rw [(check_good size i had r l hz).1] at h
      cases hx : checkGo size (i + 1) (had || r.dflt) l with
      | ok m => rw [hx] at h; cases h
      | error y =>
        obtain ⟨e', p'⟩ := y
        rw [hx] at h
        simp only [Except.map, Except.error.injEq, Prod.mk.injEq] at h
        have := check_code size l _ _ e' p' hx
        omega
    · obtain ⟨e', h1, h2⟩ := check_bad size i had r l hz
      rw [h1] at h
      simp only [Except.error.injEq, Prod.mk.injEq] at h
      omega
theorem outC_cases (x : ResI (List Ent)) (hc : ∀ e p, x = .error (e, p) → e ≠ 0) : ((outC x).2.1 = 0 ∧ x = .ok (outC x).1 ∧ (outC x).2.2 = 0) ∨ ((outC x).2.1 ≠ 0 ∧ (outC x).1 = []) := by
  cases x with
  | ok m => exact .inl ⟨rfl, rfl, rfl⟩
  | error y =>
    obtain ⟨e, p⟩ := y
    refine .inr ⟨?_, rfl⟩
    have := hc e p rfl
    show (e : Int) ≠ 0
    omega
theorem readP_cases (S : List UInt8) : ((readP S).2.1 = 0 ∧ readT S = .ok (readP S).1 ∧ (readP S).2.2 = 0) ∨ ((readP S).2.1 ≠ 0 ∧ (readP S).1 = []) := by
  refine outC_cases (readT S) fun e p h => ?_
  by_cases hE : (parseP S).2.1 = 0
  · have := parseP_zero7 hE
    unfold readT at h
    rw [this] at h
    exact check_code _ _ _ _ _ _ h
  · have h1 := readP_bad hE
    unfold readP at h1
    rw [h] at h1
    have h2 : (e : Int) = ((parseP S).2.1 : Int) := congrArg (fun x => x.2.1) h1
    omega
end Go.Proofs.YtfamnloobmdhdaaDoor
