import Derived.Test.YtfamnloobmdhdaaDoorJ3
namespace Go.Proofs.YtfamnloobmdhdaaDoor
open Go
set_option maxRecDepth 20000

/-- A clause as it may be. -/
def okC (c : Cla) : Prop := (∀ x ∈ c.nums, okF x) ∧
  ((isAddrW c.word = true ∧ c.dash = false ∧ c.nums.length = if c.slash then 5 else 4) ∨ (isPortW c.word = true ∧ isAddrW c.word = false ∧ c.slash = false ∧ c.nums.length = if c.dash then 2 else 1) ∨
    (c.word = wProto ∧ c.slash = false ∧ c.dash = false ∧ c.nums.length = 1))
/-- A line as it may be. -/
structure okR (x : Raw) : Prop where
  prio : okF x.prio
  port : okF x.port
  clauses : ∀ c ∈ x.clauses, okC c
  apart : x.clauses.Pairwise fun a b => a.word ≠ b.word
  dflt : x.dflt = true → x.clauses = [] ∧ x.prio.n = 0
  drop : x.drop = true → x.port.n = 0

/-! The tokens of a line, parsed. -/
theorem map_cons {T : List Tok} {a : St} {b : List St} (h : T.map st = a :: b) : ∃ t T', T = t :: T' ∧ st t = a ∧ T'.map st = b := by
  cases T with
  | nil => simp at h
  | cons t T' =>
    rw [List.map_cons] at h
    exact ⟨t, T', rfl, (List.cons.inj h).1, (List.cons.inj h).2⟩
/-! What is parsed is as it may be. -/
theorem bind_ok {α β : Type} {x : Res α} {f : α → Res β} {b : β} (h : x.bind f = .ok b) : ∃ a, x = .ok a ∧ f a = .ok b := by
  cases x with
  | error e => simp [Except.bind] at h
  | ok a => exact ⟨a, rfl, h⟩
theorem map_ok {α β : Type} {x : Res α} {f : α → β} {b : β} (h : x.map f = .ok b) : ∃ a, x = .ok a ∧ f a = b := by
  cases x with
  | error e => simp [Except.map] at h
  | ok a => exact ⟨a, rfl, Except.ok.inj h⟩
theorem takeK_in {E k : Nat} {T T' : List Tok} {t : Tok} (h : takeK E k T = .ok (t, T')) : T = t :: T' ∧ t.kind = k := by
  cases T with
  | nil => simp [takeK] at h
  | cons u T =>
    rw [takeK] at h
    split at h
    · rename_i hk
      obtain ⟨rfl, rfl⟩ := Prod.mk.inj (Except.ok.inj h)
      exact ⟨rfl, hk⟩
    · cases h
end Go.Proofs.YtfamnloobmdhdaaDoor
namespace Go.Proofs.YtfamnloobmdhdaaDoor
open Go
set_option maxRecDepth 20000

/-- Neither Arrow nor Line. -/
def Free (A : List Tok) : Prop := ∀ t ∈ A, t.kind ≠ 6 ∧ t.kind ≠ 7
def Eats (T T' : List Tok) : Prop := ∃ A, T = A ++ T' ∧ Free A
theorem Eats.refl (T : List Tok) : Eats T T := ⟨[], rfl, fun t ht => by simp at ht⟩
theorem Eats.trans {T T' T'' : List Tok} (h1 : Eats T T') (h2 : Eats T' T'') : Eats T T'' := by
  obtain ⟨A, rfl, hA⟩ := h1
  obtain ⟨B, rfl, hB⟩ := h2
  refine ⟨A ++ B, by rw [List.append_assoc], fun t ht => ?_⟩
  rcases List.mem_append.1 ht with ht | ht
  · exact hA t ht
  · exact hB t ht
theorem Eats.one {t : Tok} {T : List Tok} (h6 : t.kind ≠ 6) (h7 : t.kind ≠ 7) : Eats (t :: T) T := ⟨[t], rfl, fun u hu => by rw [List.mem_singleton.1 hu]; exact ⟨h6, h7⟩⟩
theorem eats_K {E k : Nat} {T T' : List Tok} {t : Tok} (h : takeK E k T = .ok (t, T')) (h6 : k ≠ 6) (h7 : k ≠ 7) : Eats T T' := by
  obtain ⟨rfl, hk⟩ := takeK_in h
  exact Eats.one (by omega) (by omega)
theorem eats_F {E : Nat} {T T' : List Tok} {f : Fig} (h : takeF E T = .ok (f, T')) : Eats T T' := by
  obtain ⟨⟨t, T1⟩, h1, h2⟩ := map_ok h
  obtain ⟨_, rfl⟩ := Prod.mk.inj h2
  exact eats_K h1 (by decide) (by decide)
theorem eats_D {E : Nat} : ∀ {n : Nat} {T T' : List Tok} {l : List Fig}, takeD E n T = .ok (l, T') → Eats T T'
  | 0, T, T', l, h => by
    obtain ⟨_, rfl⟩ := Prod.mk.inj (Except.ok.inj h)
    exact Eats.refl _
  | n + 1, T, T', l, h => by
    rw [takeD] at h
    obtain ⟨⟨t, T1⟩, h1, ha⟩ := bind_ok h
    obtain ⟨⟨f, T2⟩, h2, hb⟩ := bind_ok ha
    obtain ⟨⟨l2, T3⟩, h3, hc⟩ := map_ok hb
    obtain ⟨_, rfl⟩ := Prod.mk.inj hc
    exact ((eats_K h1 (by decide) (by decide)).trans (eats_F h2)).trans (eats_D h3)
theorem eats_O {E k : Nat} {T T' : List Tok} {o : Option Fig} (h : takeO E k T = .ok (o, T')) (h6 : k ≠ 6) (h7 : k ≠ 7) : Eats T T' := by
  cases T with
  | nil =>
    obtain ⟨_, rfl⟩ := Prod.mk.inj (Except.ok.inj h)
    exact Eats.refl _
  | cons t T =>
    rw [takeO] at h
    split at h
    · rename_i hk
      obtain ⟨⟨f, T1⟩, h1, h2⟩ := map_ok h
      obtain ⟨_, rfl⟩ := Prod.mk.inj h2
      exact (Eats.one (by omega) (by omega)).trans (eats_F h1)
    · obtain ⟨_, rfl⟩ := Prod.mk.inj (Except.ok.inj h)
      exact Eats.refl _
theorem eats_C {E : Nat} {had : List Cla} {t : Tok} {T T' : List Tok} {c : Cla} (h : takeC E had t T = .ok (c, T')) : Eats T T' := by
  unfold takeC at h
  split at h
  · cases h
  split at h
  · cases h
  obtain ⟨⟨f, T1⟩, h1, ha⟩ := bind_ok h
  have e1 := eats_F h1
  simp only at ha
  split at ha
  · obtain ⟨⟨l, T2⟩, h2, hb⟩ := bind_ok ha
    obtain ⟨⟨o, T3⟩, h3, hc⟩ := map_ok hb
    obtain ⟨_, rfl⟩ := Prod.mk.inj hc
    exact (e1.trans (eats_D h2)).trans (eats_O h3 (by decide) (by decide))
  · split at ha
    · obtain ⟨⟨o, T3⟩, h3, hc⟩ := map_ok ha
      obtain ⟨_, rfl⟩ := Prod.mk.inj hc
      exact e1.trans (eats_O h3 (by decide) (by decide))
    · obtain ⟨_, rfl⟩ := Prod.mk.inj (Except.ok.inj ha)
      exact e1
theorem eats_Cs {E : Nat} : ∀ {f : Nat} {had : List Cla} {T T' : List Tok} {l : List Cla}, takeCs E f had T = .ok (l, T') → Eats T T'
  | 0, had, T, T', l, h => by
    obtain ⟨_, rfl⟩ := Prod.mk.inj (Except.ok.inj h)
    exact Eats.refl _
  | f + 1, had, [], T', l, h => by
    obtain ⟨_, rfl⟩ := Prod.mk.inj (Except.ok.inj h)
    exact Eats.refl _
  | f + 1, had, t :: T, T', l, h => by
    rw [takeCs] at h
    split at h
    · rename_i hk
      obtain ⟨⟨c, T1⟩, h3, ha⟩ := bind_ok h
      exact ((Eats.one (by omega) (by omega)).trans (eats_C h3)).trans (eats_Cs ha)
    · obtain ⟨_, rfl⟩ := Prod.mk.inj (Except.ok.inj h)
      exact Eats.refl _
end Go.Proofs.YtfamnloobmdhdaaDoor
