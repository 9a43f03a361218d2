import Derived.Test.YtfamnloobmdhdaaDoorJ17
namespace Go.Proofs.YtfamnloobmdhdaaDoor
open Go Go.RowKit
set_option maxRecDepth 20000

theorem check_code (size : Int) : ∀ (l : List Raw) (i : Nat) (had : Bool) (e : Nat) (p : Int), checkGo size i had l = .error (e, p) → e ≠ 0
  | [], i, had, e, p, h => by
    rw [check_nil] at h
    split at h
    · cases h
    · simp only [Except.error.injEq, Prod.mk.injEq] at h; omega
  | r :: l, i, had, e, p, h => by
    by_cases hz : (rowF i had r).1 = 0
    · rw [(check_good size i had r l hz).1] at h
      cases hx : checkGo size (i + 1) (had || r.dflt) l with
      | ok m => rw [hx] at h; cases h
      | error y =>
        obtain ⟨e', p'⟩ := y
        rw [hx] at h
        simp only [Except.map, Except.error.injEq, Prod.mk.injEq] at h
        have := check_code size l _ _ e' p' hx
        omega
    · obtain ⟨e', h1, h2⟩ := check_bad size i had r l hz
      rw [h1] at h
      simp only [Except.error.injEq, Prod.mk.injEq] at h
      omega
theorem outC_cases (x : ResI (List Ent)) (hc : ∀ e p, x = .error (e, p) → e ≠ 0) : ((outC x).2.1 = 0 ∧ x = .ok (outC x).1 ∧ (outC x).2.2 = 0) ∨ ((outC x).2.1 ≠ 0 ∧ (outC x).1 = []) := by
  cases x with
  | ok m => exact .inl ⟨rfl, rfl, rfl⟩
  | error y =>
    obtain ⟨e, p⟩ := y
    refine .inr ⟨?_, rfl⟩
    have := hc e p rfl
    show (e : Int) ≠ 0
    omega
theorem readP_cases (S : List UInt8) : ((readP S).2.1 = 0 ∧ readT S = .ok (readP S).1 ∧ (readP S).2.2 = 0) ∨ ((readP S).2.1 ≠ 0 ∧ (readP S).1 = []) := by
  refine outC_cases (readT S) fun e p h => ?_
  by_cases hE : (parseP S).2.1 = 0
  · have := parseP_zero7 hE
    unfold readT at h
    rw [this] at h
    exact check_code _ _ _ _ _ _ h
  · have h1 := readP_bad hE
    unfold readP at h1
    rw [h] at h1
    have h2 : (e : Int) = ((parseP S).2.1 : Int) := congrArg (fun x => x.2.1) h1
    omega
theorem okE_32 {x : Ent} (h : okE x) : ent32 x := ⟨⟨h.src.1, h.src.2.1⟩, ⟨h.dst.1, h.dst.2.1⟩⟩
theorem ents32_of (S : List UInt8) : ∀ x ∈ (readP S).1, ent32 x := fun x hx => by
  rcases readP_cases S with ⟨_, h, _⟩ | ⟨_, h⟩
  · exact okE_32 ((read_in h).1 x hx)
  · rw [h] at hx; simp at hx
/-- What is said of a header. -/
theorem says_whole (S : List UInt8) (ap : Ent → Bool) : (saysT ap (readP S).1).2 = ((readP S).2.1 == 0) ∧ 0 ≤ (saysT ap (readP S).1).1 ∧ (saysT ap (readP S).1).1 ≤ 99 := by
  rcases readP_cases S with ⟨h0, h, _⟩ | ⟨h0, h⟩
  · obtain ⟨h1, h2, _⟩ := read_in h
    have hex : ∃ x ∈ (readP S).1, x.dflt = true := by
      have : 0 < ((readP S).1.filter fun x => x.dflt).length := by omega
      obtain ⟨x, hx⟩ := List.exists_mem_of_length_pos this
      rw [List.mem_filter] at hx
      exact ⟨x, hx.1, hx.2⟩
    obtain ⟨i, x, hw, hx⟩ := which_some ap (readP S).1 hex
    have e2 : saysT ap (readP S).1 = (x.action, true) := by unfold saysT; rw [hw]; simp only [List.getD_eq_getElem?_getD, hx]; rfl
    have ha := (h1 x (List.mem_of_getElem? hx)).act
    rw [e2, h0]
    exact ⟨rfl, ha.1, ha.2⟩
  · rw [h]
    have : saysT ap [] = (0, false) := rfl
    rw [this]
    refine ⟨?_, by decide, by decide⟩
    have : ((readP S).2.1 == 0) = false := by simpa using h0
    rw [this]

set_option maxHeartbeats 4000000 in
theorem lawSWhole_any (s : ByteArray) (hs : s.size ≤ maxLen) (L : List Int) (hL : Byt L) (w : World) (hP : Places w) :
    Calls Tryd.prog 7 #[.string s, .agg (hv L)] w fun e w' => e = .returned (.bool true) ∧ Below w.heap.size w w' := by
  have hLl := hL.1
  have hp := hP.pos
  have AW : Hid (∀ W, Below w.heap.size w W → Calls Tryd.prog 9 #[] W fun e w' => e = .returned (.bool true) ∧ Below W.heap.size W w') := fun W hb => awake7_any W (hP.later hp hb)
  have RD : Hid (∀ W, Calls Tryd.prog 10 #[.string s] W fun e w' => ∃ v, e = .returned (.tuple #[v, .int .i64 (readP s.data.toList).2.1, .int .i64 (readP s.data.toList).2.2]) ∧ EntsOwn W.heap.size w' (readP s.data.toList).1 v ∧ Below W.heap.size W w') := read_any s hs
  have SA : Hid (∀ W v, EntsAt W v (readP s.data.toList).1 → Below w.heap.size w W → Calls Tryd.prog 19 #[v, .agg (hv L)] W fun e w' => e = .returned (.tuple #[.int .i64 (saysT (applyT L) (readP s.data.toList).1).1, .bool (saysT (applyT L) (readP s.data.toList).1).2]) ∧ Below W.heap.size W w') := fun W v h hb => says_any _ v W h (ents32_of _) L hL (hP.later hp hb)
  obtain ⟨h1, h2, h3⟩ := says_whole s.data.toList (applyT L)
  obtain ⟨X, hX⟩ : ∃ X, X = readP s.data.toList := ⟨_, rfl⟩
  rw [← hX] at RD SA h1 h2 h3
  obtain ⟨⟨a, b⟩, hab⟩ : ∃ ab, ab = saysT (applyT L) X.1 := ⟨_, rfl⟩
  rw [← hab] at SA h1 h2 h3
  simp only at SA h1 h2 h3
  obtain ⟨l, E, A⟩ := X
  simp only at RD SA h1
  have KN : Hid ((w.alloc (.cells (hv L) 37)).heap[w.heap.size]? = some (.cells (hv L) 37 (0, 0)) ∧ Below w.heap.size w (w.alloc (.cells (hv L) 37))) := ⟨heap_new _ _ _ rfl, (Below.refl _ _).alloc (Nat.le_refl _) _⟩
  subst h1
  have hbb : ((E == 0) == (E == 0)) = true := by simp
  clear hX hab hs hP hp
  go_enter Tryd.func7, Tryd.ntmps7
  go_wp2_with fail
  refine (AW.out _ KN.out.2).mono ?_
  rintro e w1 ⟨rfl, hb1⟩
  have R1 : Hid (w1.heap[w.heap.size]? = some (.cells (hv L) 37 (0, 0))) := (hb1.block _ (by simp)).trans KN.out.1
  have B1 : Hid (Below w.heap.size w w1) := KN.out.2.trans (hb1.mono KN.out.2.size)
  have z1 : Hid (w.heap.size < w1.heap.size) := (Array.getElem?_eq_some_iff.1 R1.out).1
  clear hb1
  go_wp2_with fail
  refine (RD.out _).mono ?_
  rintro e w2 ⟨v, rfl, ho2, hb2⟩
  have HE : Hid (EntsAt w2 v l) := ents_sl ho2
  have R2 : Hid (w2.heap[w.heap.size]? = some (.cells (hv L) 37 (0, 0))) := (hb2.block _ z1.out).trans R1.out
  have B2 : Hid (Below w.heap.size w w2) := B1.out.trans (hb2.mono B1.out.size)
  clear hb2 ho2
  go_wp2_with (refine wl_load26 rfl _ rfl w.heap.size rfl L R2.out hLl ?_)
  refine (SA.out _ _ HE.out B2.out).mono ?_
  rintro e w3 ⟨rfl, hb3⟩
  have B3 : Hid (Below w.heap.size w w3) := B2.out.trans (hb3.mono B2.out.size)
  clear hb3
  go_wp2_with fail
  go_ret
  exact ⟨rfl, B3.out⟩
end Go.Proofs.YtfamnloobmdhdaaDoor
