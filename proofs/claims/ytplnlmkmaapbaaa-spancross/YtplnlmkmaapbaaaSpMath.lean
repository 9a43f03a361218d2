import Derived.Test.YtplnlmkmaapbaaaBase
namespace Go.Proofs.Ytplnlmkmaapbaaa
open Go Go.RowKit

/-- How many numbers a piece of so many bits has. -/
def sz (b : Nat) : Nat := 2 ^ (16 - b)
theorem sz_pos (b : Nat) : 0 < sz b := Nat.pow_pos (by decide)
theorem sz_le (b : Nat) : sz b ≤ 65536 := by
  unfold sz
  exact Nat.le_trans (Nat.pow_le_pow_right (by decide) (Nat.sub_le 16 b)) (by decide)
theorem sz_half (b : Nat) (h : b < 16) : sz b = 2 * sz (b + 1) := by
  unfold sz
  rw [show 16 - b = (16 - (b + 1)) + 1 by omega, Nat.pow_succ]; omega
theorem sz_16 : sz 16 = 1 := rfl
theorem sz_0 : sz 0 = 65536 := rfl

/-- A piece of so many bits begins at n and has no number beyond h. -/
def okP (n h b : Nat) : Bool := n % sz b == 0 && decide (n + sz b ≤ h + 1)
theorem okP_iff (n h b : Nat) : okP n h b = true ↔ n % sz b = 0 ∧ n + sz b ≤ h + 1 := by simp [okP]
theorem okP_16 (n h : Nat) (hn : n ≤ h) : okP n h 16 = true := by rw [okP_iff, sz_16]; omega

/-- The fewest bits. -/
def gr (n h : Nat) : Nat := ((List.range 17).find? (okP n h)).getD 16
def IsGr (n h b : Nat) : Prop := b ≤ 16 ∧ okP n h b = true ∧ ∀ c, c < b → okP n h c = false
theorem IsGr.eq {n h b c : Nat} (h1 : IsGr n h b) (h2 : IsGr n h c) : b = c := by
  rcases Nat.lt_trichotomy b c with h3 | h3 | h3
  · exact absurd h1.2.1 (by rw [h2.2.2 b h3]; decide)
  · exact h3
  · exact absurd h2.2.1 (by rw [h1.2.2 c h3]; decide)
theorem gr_is (n h : Nat) (hn : n ≤ h) : IsGr n h (gr n h) := by
  unfold gr
  cases e : (List.range 17).find? (okP n h) with
  | none =>
    rw [List.find?_eq_none] at e
    exact absurd (okP_16 n h hn) (e 16 (by simp))
  | some b =>
    rw [List.find?_range_eq_some] at e
    obtain ⟨h1, h2, h3⟩ := e
    refine ⟨by simp at h2; simp; omega, h1, fun c hc => by simpa using h3 c hc⟩
theorem gr_eq {n h b : Nat} (hn : n ≤ h) (hb : IsGr n h b) : gr n h = b := (gr_is n h hn).eq hb

/-- The pieces from n on, up to h, so many at most. -/
def rngF (h : Nat) : Nat → Nat → List (Nat × Nat)
  | 0, _ => []
  | f + 1, n => if n ≤ h then (n, gr n h) :: rngF h f (n + sz (gr n h)) else []
/-- The pieces from n on, up to h. -/
def rng (h n : Nat) : List (Nat × Nat) := rngF h (h + 1 - n) n
theorem rngF_more (h : Nat) : ∀ f g n, h + 1 - n ≤ f → h + 1 - n ≤ g → rngF h f n = rngF h g n
  | 0, 0, _, _, _ => rfl
  | 0, g + 1, n, hf, _ => by rw [rngF, rngF, if_neg (by omega)]
  | f + 1, 0, n, _, hg => by rw [rngF, rngF, if_neg (by omega)]
  | f + 1, g + 1, n, hf, hg => by
    rw [rngF, rngF]
    by_cases hn : n ≤ h
    · have := sz_pos (gr n h)
      rw [if_pos hn, if_pos hn, rngF_more h f g (n + sz (gr n h)) (by omega) (by omega)]
    · rw [if_neg hn, if_neg hn]
theorem rng_cons {h n : Nat} (hn : n ≤ h) : rng h n = (n, gr n h) :: rng h (n + sz (gr n h)) := by
  have := sz_pos (gr n h)
  unfold rng
  rw [show h + 1 - n = (h - n) + 1 by omega, rngF, if_pos hn, rngF_more h (h - n) (h + 1 - (n + sz (gr n h))) (n + sz (gr n h)) (by omega) (by omega)]
theorem rng_nil {h n : Nat} (hn : h < n) : rng h n = [] := by
  unfold rng
  rw [show h + 1 - n = 0 by omega, rngF]
theorem rng_next {h n : Nat} (hn : n ≤ h) : n < n + sz (gr n h) ∧ n + sz (gr n h) ≤ h + 1 := by
  have := sz_pos (gr n h)
  have := ((okP_iff _ _ _).1 (gr_is n h hn).2.1).2
  omega

theorem rng_induct (h : Nat) (P : Nat → Prop) (h0 : ∀ n, h < n → P n) (h1 : ∀ n, n ≤ h → P (n + sz (gr n h)) → P n) : ∀ n, P n := by
  have key : ∀ d n, h + 1 - n ≤ d → P n := by
    intro d
    induction d with
    | zero => intro n hn; exact h0 n (by omega)
    | succ d ih =>
      intro n hn
      by_cases hl : n ≤ h
      · exact h1 n hl (ih _ (by have := rng_next hl; omega))
      · exact h0 n (by omega)
  exact fun n => key _ n (Nat.le_refl _)

theorem rng_mem (h : Nat) (n : Nat) : ∀ p ∈ rng h n, n ≤ p.1 ∧ p.1 ≤ h ∧ p.2 = gr p.1 h := by
  refine rng_induct h (fun n => ∀ p ∈ rng h n, n ≤ p.1 ∧ p.1 ≤ h ∧ p.2 = gr p.1 h) (fun n hn => by rw [rng_nil hn]; simp) (fun n hn ih => ?_) n
  rw [rng_cons hn]
  intro p hp
  rcases List.mem_cons.1 hp with rfl | hp
  · exact ⟨Nat.le_refl _, hn, rfl⟩
  · have := ih p hp
    have := rng_next hn
    omega
theorem rng_bits {h n : Nat} {p : Nat × Nat} (hp : p ∈ rng h n) : p.2 ≤ 16 := by
  obtain ⟨_, h2, h3⟩ := rng_mem h n p hp
  rw [h3]; exact (gr_is _ _ h2).1

/-- Has a piece a number? -/
def inP (p : Nat × Nat) (x : Nat) : Bool := decide (p.1 ≤ x) && decide (x < p.1 + sz p.2)
theorem cnt_rng (h x : Nat) : ∀ n, ((rng h n).filter fun p => inP p x).length = if n ≤ x ∧ x ≤ h then 1 else 0 := by
  refine rng_induct h _ (fun n hn => ?_) (fun n hn ih => ?_)
  · rw [rng_nil hn, if_neg (by omega)]; rfl
  · have hx := rng_next hn
    rw [rng_cons hn, List.filter_cons]
    by_cases c : n ≤ x ∧ x < n + sz (gr n h)
    · rw [if_pos (by simp [inP, c]), List.length_cons, ih, if_neg (by omega), if_pos (by omega)]
    · rw [if_neg (by simp only [inP, Bool.and_eq_true, decide_eq_true_eq]; exact c), ih]
      by_cases d : n + sz (gr n h) ≤ x ∧ x ≤ h
      · rw [if_pos d, if_pos (by omega)]
      · rw [if_neg d, if_neg (by omega)]

/-- Neighbours rise, and are no two halves of one piece. -/
theorem rng_near (h : Nat) : ∀ n, ∀ k a b, (rng h n)[k]? = some a → (rng h n)[k + 1]? = some b → b.1 = a.1 + sz a.2 ∧ ¬ (a.2 = b.2 ∧ 0 < a.2 ∧ a.1 / sz a.2 % 2 = 0) := by
  refine rng_induct h _ (fun n hn => ?_) (fun n hn ih => ?_)
  · rw [rng_nil hn]; intro k a b ha; simp at ha
  · intro k a b ha hb
    rw [rng_cons hn] at ha hb
    cases k with
    | succ k => exact ih k a b (by simpa using ha) (by simpa using hb)
    | zero =>
      obtain rfl : a = (n, gr n h) := by simpa using ha.symm
      rw [List.getElem?_cons_succ] at hb
      by_cases hl : n + sz (gr n h) ≤ h
      · rw [rng_cons hl] at hb
        obtain rfl : b = (n + sz (gr n h), gr (n + sz (gr n h)) h) := by simpa using hb.symm
        refine ⟨rfl, ?_⟩
        rintro ⟨e1, e2, e3⟩
        have g1 := gr_is n h hn
        have g2 := ((okP_iff _ _ _).1 (gr_is _ h hl).2.1).2
        have g0 := ((okP_iff _ _ _).1 g1.2.1).1
        simp only at e1 e2 e3
        rw [← e1] at g2
        have no := g1.2.2 (gr n h - 1) (by omega)
        have hs : sz (gr n h - 1) = 2 * sz (gr n h) := by
          have := sz_half (gr n h - 1) (by have := g1.1; omega)
          rwa [show gr n h - 1 + 1 = gr n h by omega] at this
        have yes : okP n h (gr n h - 1) = true := by
          rw [okP_iff, hs]
          refine ⟨?_, by omega⟩
          have h1 := Nat.div_add_mod n (sz (gr n h))
          rw [g0] at h1
          have h2 : n / sz (gr n h) = 2 * (n / sz (gr n h) / 2) := by omega
          have h3 : n = 2 * sz (gr n h) * (n / sz (gr n h) / 2) := by
            rw [Nat.mul_comm 2 (sz _), Nat.mul_assoc, ← h2]; omega
          exact Nat.mod_eq_zero_of_dvd ⟨_, h3⟩
        rw [yes] at no
        exact absurd no (by decide)
      · rw [rng_nil (by omega)] at hb; simp at hb

/-- The down-going half: so many pieces at most. -/
theorem rng_down (h : Nat) : ∀ k n, k ≤ 16 → n % 2 ^ k = 0 → h + 1 < n + 2 ^ k → (rng h n).length ≤ k
  | 0, n, _, _, hr => by rw [rng_nil (by simpa using hr)]; exact Nat.le_refl _
  | k + 1, n, hk, hd, hr => by
    have e1 : 2 ^ (k + 1) = 2 * 2 ^ k := by rw [Nat.pow_succ]; omega
    have hdk : n % 2 ^ k = 0 := by
      rw [e1] at hd
      have := Nat.div_add_mod n (2 * 2 ^ k)
      rw [hd] at this
      rw [← this, Nat.add_zero, Nat.mul_comm 2, Nat.mul_assoc]
      exact Nat.mul_mod_right _ _
    by_cases hs : h + 1 < n + 2 ^ k
    · exact Nat.le_succ_of_le (rng_down h k n (by omega) hdk hs)
    · have hp : 0 < 2 ^ k := Nat.pow_pos (by decide)
      have hn : n ≤ h := by omega
      have hg : gr n h = 16 - k := by
        refine gr_eq hn ⟨by omega, ?_, fun c hc => ?_⟩
        · rw [okP_iff, sz, show 16 - (16 - k) = k by omega]; exact ⟨hdk, by omega⟩
        · cases e : okP n h c with
          | false => rfl
          | true =>
            have h2 := ((okP_iff _ _ _).1 e).2
            have : 2 ^ (k + 1) ≤ sz c := Nat.pow_le_pow_right (by decide) (by omega)
            omega
      have hz : sz (gr n h) = 2 ^ k := by rw [hg, sz, show 16 - (16 - k) = k by omega]
      rw [rng_cons hn, List.length_cons, hz]
      have := rng_down h k (n + 2 ^ k) (by omega) (by rw [Nat.add_mod_right]; exact hdk) (by omega)
      omega

/-- The up-going half. -/
theorem rng_up (h : Nat) (hh : h ≤ 65535) : ∀ d n, d ≤ 15 → 0 < n → n ≤ 65536 → n % 2 ^ (15 - d) = 0 → (rng h n).length ≤ 15 + d
  | 0, n, _, h0, h1, hd => by
    have hd' : n % 32768 = 0 := hd
    rcases (show n = 32768 ∨ n = 65536 by omega) with rfl | rfl
    · by_cases hr : h + 1 < 32768 + 32768
      · exact rng_down h 15 32768 (by decide) (by decide) hr
      · obtain rfl : h = 65535 := by omega
        have hg : gr 32768 65535 = 1 := by decide
        rw [rng_cons (by decide), hg, rng_nil (by decide)]
        decide
    · rw [rng_nil (by omega)]; exact Nat.zero_le _
  | d + 1, n, hd1, h0, h1, hd => by
    obtain ⟨j, hj⟩ : ∃ j, j = 15 - (d + 1) := ⟨_, rfl⟩
    have hj1 : 15 - d = j + 1 := by omega
    rw [← hj] at hd
    have e1 : 2 ^ (j + 1) = 2 * 2 ^ j := by rw [Nat.pow_succ]; omega
    have hp : 0 < 2 ^ j := Nat.pow_pos (by decide)
    by_cases he : n % 2 ^ (j + 1) = 0
    · exact Nat.le_succ_of_le (rng_up h hh d n (by omega) h0 h1 (by rw [hj1]; exact he))
    · by_cases hr : h + 1 < n + 2 ^ j
      · have := rng_down h j n (by omega) hd hr
        omega
      · have hn : n ≤ h := by omega
        have hg : gr n h = 16 - j := by
          refine gr_eq hn ⟨by omega, ?_, fun c hc => ?_⟩
          · rw [okP_iff, sz, show 16 - (16 - j) = j by omega]; exact ⟨hd, by omega⟩
          · cases e : okP n h c with
            | false => rfl
            | true =>
              have h2 := ((okP_iff _ _ _).1 e).1
              refine absurd ?_ he
              have : 2 ^ (j + 1) ∣ sz c := Nat.pow_dvd_pow 2 (by omega)
              exact Nat.mod_eq_zero_of_dvd (Nat.dvd_trans this (Nat.dvd_of_mod_eq_zero h2))
        have hz : sz (gr n h) = 2 ^ j := by rw [hg, sz, show 16 - (16 - j) = j by omega]
        rw [rng_cons hn, List.length_cons, hz]
        have hm : (n + 2 ^ j) % 2 ^ (j + 1) = 0 := by
          rw [e1] at he ⊢
          have h2 := Nat.div_add_mod n (2 ^ j)
          rw [hd] at h2
          have h3 : ¬ (n / 2 ^ j) % 2 = 0 := fun h4 => he (by
            have h5 : n / 2 ^ j = 2 * (n / 2 ^ j / 2) := by omega
            have h6 : n = 2 * 2 ^ j * (n / 2 ^ j / 2) := by
              rw [Nat.mul_comm 2 (2 ^ j), Nat.mul_assoc, ← h5]; omega
            rw [h6]; exact Nat.mul_mod_right _ _)
          have h5 : n / 2 ^ j + 1 = 2 * ((n / 2 ^ j + 1) / 2) := by omega
          have h6 : n + 2 ^ j = 2 * 2 ^ j * ((n / 2 ^ j + 1) / 2) := by
            rw [Nat.mul_comm 2 (2 ^ j), Nat.mul_assoc, ← h5, Nat.mul_add]; omega
          rw [h6]; exact Nat.mul_mod_right _ _
        have := rng_up h hh d (n + 2 ^ j) (by omega) (by omega) (by omega) (by rw [hj1]; exact hm)
        omega

theorem rng_few (h n : Nat) (hh : h ≤ 65535) (hn : n ≤ 65536) : (rng h n).length ≤ 30 := by
  by_cases h0 : n = 0
  · subst h0
    by_cases hr : h + 1 < 0 + 2 ^ 16
    · have := rng_down h 16 0 (by decide) (by decide) hr
      omega
    · obtain rfl : h = 65535 := by omega
      have hg : gr 0 65535 = 0 := by decide
      rw [rng_cons (by decide), hg, rng_nil (by decide)]
      decide
  · exact rng_up h hh 15 n (by decide) (by omega) hn (by rw [show 15 - 15 = 0 from rfl, Nat.pow_zero]; exact Nat.mod_one n)

theorem rng_16 : rng 6 1 = [(1, 16), (2, 15), (4, 15), (6, 16)] := by
  rw [rng_cons (by decide), show gr 1 6 = 16 by decide, show 1 + sz 16 = 2 by decide, rng_cons (by decide), show gr 2 6 = 15 by decide, show 2 + sz 15 = 4 by decide, rng_cons (by decide), show gr 4 6 = 15 by decide, show 4 + sz 15 = 6 by decide, rng_cons (by decide), show gr 6 6 = 16 by decide, show 6 + sz 16 = 7 by decide, rng_nil (by decide)]
end Go.Proofs.Ytplnlmkmaapbaaa
