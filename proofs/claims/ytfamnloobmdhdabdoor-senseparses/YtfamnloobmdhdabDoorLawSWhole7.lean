import Derived.Test.YtfamnloobmdhdabDoorJ17
namespace Go.Proofs.YtfamnloobmdhdabDoor
open Go Go.RowKit
set_option maxRecDepth 20000

theorem check_code (size : Int) : ∀ (l : List Raw) (i : Nat) (had : Bool) (e : Nat) (p : Int), checkGo size i had l = .error (e, p) → e ≠ 0
  | [], i, had, e, p, h => by
    rw [check_nil] at h
    split at h
    · cases h
    · simp only [Except.error.injEq, Prod.mk.injEq] at h; omega
  | r :: l, i, had, e, p, h => by
    by_cases hz : (rowF i had r).1 = 0
    · rw [(check_good size i had r l hz).1] at h
      cases hx : checkGo size (i + 1) (had || r.dflt) l with
      | ok m => rw [hx] at h; cases h
      | error y =>
        obtain ⟨e', p'⟩ := y
        rw [hx] at h
        simp only [Except.map, Except.error.injEq, Prod.mk.injEq] at h
        have := check_code size l _ _ e' p' hx
        omega
    · obtain ⟨e', h1, h2⟩ := check_bad size i had r l hz
      rw [h1] at h
      simp only [Except.error.injEq, Prod.mk.injEq] at h
      omega
theorem outC_cases (x : ResI (List Ent)) (hc : ∀ e p, x = .error (e, p) → e ≠ 0) : ((outC x).2.1 = 0 ∧ x = .ok (outC x).1 ∧ (outC x).2.2 = 0) ∨ ((outC x).2.1 ≠ 0 ∧ (outC x).1 = []) := by
  cases x with
  | ok m => exact .inl ⟨rfl, rfl, rfl⟩
  | error y =>
    obtain ⟨e, p⟩ := y
    refine .inr ⟨?_, rfl⟩
    have := hc e p rfl
    show (e : Int) ≠ 0
    omega
theorem readP_cases (S : List UInt8) : ((readP S).2.1 = 0 ∧ readT S = .ok (readP S).1 ∧ (readP S).2.2 = 0) ∨ ((readP S).2.1 ≠ 0 ∧ (readP S).1 = []) := by
  refine outC_cases (readT S) fun e p h => ?_
  by_cases hE : (parseP S).2.1 = 0
  · have := parseP_zero7 hE
    unfold readT at h
    rw [this] at h
    exact check_code _ _ _ _ _ _ h
  · have h1 := readP_bad hE
    unfold readP at h1
    rw [h] at h1
    have h2 : (e : Int) = ((parseP S).2.1 : Int) := congrArg (fun x => x.2.1) h1
    omega
theorem okE_32 {x : Ent} (h : okE x) : ent32 x := ⟨⟨h.src.1, h.src.2.1⟩, ⟨h.dst.1, h.dst.2.1⟩⟩
theorem ents32_of (S : List UInt8) : ∀ x ∈ (readP S).1, ent32 x := fun x hx => by
  rcases readP_cases S with ⟨_, h, _⟩ | ⟨_, h⟩
  · exact okE_32 ((read_in h).1 x hx)
  · rw [h] at hx; simp at hx
/-- What is said of a header. -/
theorem says_whole (S : List UInt8) (ap : Ent → Bool) : (saysT ap (readP S).1).2 = ((readP S).2.1 == 0) ∧ 0 ≤ (saysT ap (readP S).1).1 ∧ (saysT ap (readP S).1).1 ≤ 99 := by
  rcases readP_cases S with ⟨h0, h, _⟩ | ⟨h0, h⟩
  · obtain ⟨h1, h2, _⟩ := read_in h
    have hex : ∃ x ∈ (readP S).1, x.dflt = true := by
      have : 0 < ((readP S).1.filter fun x => x.dflt).length := by omega
      obtain ⟨x, hx⟩ := List.exists_mem_of_length_pos this
      rw [List.mem_filter] at hx
      exact ⟨x, hx.1, hx.2⟩
    obtain ⟨i, x, hw, hx⟩ := which_some ap (readP S).1 hex
    have e2 : saysT ap (readP S).1 = (x.action, true) := by unfold saysT; rw [hw]; simp only [List.getD_eq_getElem?_getD, hx]; rfl
    have ha := (h1 x (List.mem_of_getElem? hx)).act
    rw [e2, h0]
    exact ⟨rfl, ha.1, ha.2⟩
  · rw [h]
    have : saysT ap [] = (0, false) := rfl
    rw [this]
    refine ⟨?_, by decide, by decide⟩
    have : ((readP S).2.1 == 0) = false := by simpa using h0
    rw [this]

end Go.Proofs.YtfamnloobmdhdabDoor
