import Derived.Test.YtnppfibojcgkmaaFTwo
namespace Go.Proofs.Ytnppfibojcgkmaa

/-- One place stands ahead of another: by what it holds, and of those that stand alike the lower one. -/
def ahead (K : Nat → Int) (i j : Nat) : Prop := K i < K j ∨ (K i = K j ∧ i < j)
theorem ahead_asymm {K : Nat → Int} {i j : Nat} (h : ahead K i j) (h' : ahead K j i) : False := by unfold ahead at h h'; omega
theorem ahead_trans {K : Nat → Int} {i j k : Nat} (h : ahead K i j) (h' : ahead K j k) : ahead K i k := by unfold ahead at h h' ⊢; omega
theorem ahead_total {K : Nat → Int} {i j : Nat} (h : i ≠ j) : ahead K i j ∨ ahead K j i := by unfold ahead; omega
/-- All places below n, in their order. -/
def IsOrd (K : Nat → Int) (n : Nat) (o : List Nat) : Prop := (∀ i, i ∈ o ↔ i < n) ∧ o.Pairwise (ahead K)
theorem ord_ext {K : Nat → Int} : ∀ {o p : List Nat}, o.Pairwise (ahead K) → p.Pairwise (ahead K) → (∀ x, x ∈ o ↔ x ∈ p) → o = p
  | [], [], _, _, _ => rfl
  | [], b :: p, _, _, h => absurd ((h b).2 (by simp)) (by simp)
  | a :: o, [], _, _, h => absurd ((h a).1 (by simp)) (by simp)
  | a :: o, b :: p, ho, hp, h => by
    rw [List.pairwise_cons] at ho hp
    have hab : a = b := by
      rcases Nat.lt_trichotomy a b with hl | hl | hl
      · exfalso
        have h1 : a ∈ p := by rcases List.mem_cons.1 ((h a).1 (by simp)) with e | e; omega; exact e
        have h2 : b ∈ o := by rcases List.mem_cons.1 ((h b).2 (by simp)) with e | e; omega; exact e
        exact ahead_asymm (ho.1 b h2) (hp.1 a h1)
      · exact hl
      · exfalso
        have h1 : a ∈ p := by rcases List.mem_cons.1 ((h a).1 (by simp)) with e | e; omega; exact e
        have h2 : b ∈ o := by rcases List.mem_cons.1 ((h b).2 (by simp)) with e | e; omega; exact e
        exact ahead_asymm (ho.1 b h2) (hp.1 a h1)
    subst hab
    have ha : a ∉ o := fun e => ahead_asymm (ho.1 a e) (ho.1 a e)
    have hb : a ∉ p := fun e => ahead_asymm (hp.1 a e) (hp.1 a e)
    rw [ord_ext ho.2 hp.2 fun x => ?_]
    constructor
    · intro hx
      rcases List.mem_cons.1 ((h x).1 (List.mem_cons_of_mem _ hx)) with e | e
      · rw [e] at hx; exact absurd hx ha
      · exact e
    · intro hx
      rcases List.mem_cons.1 ((h x).2 (List.mem_cons_of_mem _ hx)) with e | e
      · rw [e] at hx; exact absurd hx hb
      · exact e
/-- There is just one such list. -/
theorem ord_one {K : Nat → Int} {n : Nat} {o p : List Nat} (ho : IsOrd K n o) (hp : IsOrd K n p) : o = p := ord_ext ho.2 hp.2 fun x => (ho.1 x).trans (hp.1 x).symm

/-- The first of those that are left, picked one by one. -/
def PartOrd (K : Nat → Int) (n : Nat) (o : List Nat) : Prop := (∀ i ∈ o, i < n) ∧ o.Pairwise (ahead K) ∧ ∀ i ∈ o, ∀ j, j < n → j ∉ o → ahead K i j
theorem part_nil (K : Nat → Int) (n : Nat) : PartOrd K n [] := ⟨fun _ h => by simp at h, List.Pairwise.nil, fun _ h => by simp at h⟩
/-- The first of those below m that are left. -/
def IsFirst (K : Nat → Int) (o : List Nat) (m b : Nat) : Prop := b < m ∧ b ∉ o ∧ ∀ j, j < m → j ∉ o → j ≠ b → ahead K b j
theorem part_snoc {K : Nat → Int} {n : Nat} {o : List Nat} {b : Nat} (h : PartOrd K n o) (hb : IsFirst K o n b) : PartOrd K n (o ++ [b]) := by
  obtain ⟨h1, h2, h3⟩ := h
  obtain ⟨b1, b2, b3⟩ := hb
  refine ⟨fun i hi => ?_, ?_, fun i hi j hj hjn => ?_⟩
  · rcases List.mem_append.1 hi with h | h
    · exact h1 i h
    · have : i = b := by simpa using h
      omega
  · rw [List.pairwise_append]
    refine ⟨h2, by simp, fun i hi j hj => ?_⟩
    have : j = b := by simpa using hj
    rw [this]
    exact h3 i hi b b1 b2
  · have hj1 : j ∉ o := fun e => hjn (List.mem_append_left _ e)
    have hj2 : j ≠ b := fun e => hjn (by rw [e]; simp)
    rcases List.mem_append.1 hi with h | h
    · exact h3 i h j hj hj1
    · have : i = b := by simpa using h
      rw [this]
      exact b3 j hj hj1 hj2
/-- How the first is found: none yet, or one, below m; the next place is m. -/
theorem first_skip {K : Nat → Int} {o : List Nat} {m b : Nat} (h : IsFirst K o m b) (hm : m ∈ o ∨ ¬ K m < K b) : IsFirst K o (m + 1) b := by
  obtain ⟨h1, h2, h3⟩ := h
  refine ⟨by omega, h2, fun j hj hjo hjb => ?_⟩
  by_cases e : j = m
  · subst e
    rcases hm with hm | hm
    · exact absurd hm hjo
    · unfold ahead; omega
  · exact h3 j (by omega) hjo hjb
theorem first_take {K : Nat → Int} {o : List Nat} {m b : Nat} (h : IsFirst K o m b) (hm : m ∉ o) (hk : K m < K b) : IsFirst K o (m + 1) m := by
  obtain ⟨h1, h2, h3⟩ := h
  refine ⟨by omega, hm, fun j hj hjo hjm => ?_⟩
  by_cases e : j = b
  · subst e; exact .inl hk
  · exact ahead_trans (.inl hk) (h3 j (by omega) hjo e)
theorem first_begin {K : Nat → Int} {o : List Nat} {m : Nat} (hm : m ∉ o) (h : ∀ j, j < m → j ∈ o) : IsFirst K o (m + 1) m :=
  ⟨by omega, hm, fun j hj hjo hjm => absurd (h j (by omega)) hjo⟩
/-- A list of different places below n has at most n of them; with n all are there. -/
theorem places_le (n : Nat) : ∀ (o : List Nat), (∀ i ∈ o, i < n) → o.Nodup → o.length ≤ n := by
  induction n with
  | zero =>
    intro o h _
    cases o with
    | nil => simp
    | cons a o => have := h a (by simp); omega
  | succ n ih =>
    intro o h hn
    have h1 := ih (o.erase n) (fun i hi => by
      have h2 := h i (List.mem_of_mem_erase hi)
      have h3 : i ≠ n := fun e => by rw [e] at hi; exact (List.Nodup.not_mem_erase hn) hi
      omega) (hn.erase n)
    have h4 : o.length ≤ (o.erase n).length + 1 := by rw [List.length_erase]; split <;> omega
    omega
theorem places_all (n : Nat) (o : List Nat) (h : ∀ i ∈ o, i < n) (hn : o.Nodup) (hl : o.length = n) (i : Nat) (hi : i < n) : i ∈ o := by
  rcases Classical.em (i ∈ o) with hm | hm
  · exact hm
  · exfalso
    have := places_le n (i :: o) (fun j hj => by rcases List.mem_cons.1 hj with e | e; omega; exact h j e) (List.nodup_cons.2 ⟨hm, hn⟩)
    simp at this
    omega
theorem part_nodup {K : Nat → Int} {n : Nat} {o : List Nat} (h : PartOrd K n o) : o.Nodup :=
  h.2.1.imp fun hab e => by rw [e] at hab; exact ahead_asymm hab hab
/-- When so many were picked as there are, all are in their order. -/
theorem part_all {K : Nat → Int} {n : Nat} {o : List Nat} (h : PartOrd K n o) (hl : o.length = n) : IsOrd K n o :=
  ⟨fun i => ⟨h.1 i, places_all n o h.1 (part_nodup h) hl i⟩, h.2.1⟩
theorem sub_len : ∀ (l o : List Nat), l.Nodup → (∀ x ∈ l, x ∈ o) → l.length ≤ o.length
  | [], _, _, _ => Nat.zero_le _
  | a :: l, o, hn, h => by
    rw [List.nodup_cons] at hn
    have ha : a ∈ o := h a (by simp)
    have h1 := sub_len l (o.erase a) hn.2 fun x hx => by
      have hne : x ≠ a := fun e => hn.1 (by rw [← e]; exact hx)
      exact (List.mem_erase_of_ne hne).2 (h x (by simp [hx]))
    have h2 : (o.erase a).length = o.length - 1 := List.length_erase_of_mem ha
    have h3 : 0 < o.length := List.length_pos_of_mem ha
    simp only [List.length_cons]
    omega
theorem part_more {n : Nat} {o : List Nat} (hl : o.length < n) : ∃ i, i < n ∧ i ∉ o := by
  rcases Classical.em (∃ i, i < n ∧ i ∉ o) with h1 | h1
  · exact h1
  · exfalso
    have h3 := sub_len (List.range n) o List.nodup_range fun i hi => Classical.byContradiction fun h3 => h1 ⟨i, List.mem_range.1 hi, h3⟩
    rw [List.length_range] at h3
    omega
end Go.Proofs.Ytnppfibojcgkmaa
