import Derived.Test.YtjfbahpaahlidaaDoorNumber
namespace Go.Proofs.YtjfbahpaahlidaaDoor
open Go Go.RowKit

theorem numGo_bd (s : List UInt8) : ∀ (f : Nat) (n : Int) (a : Nat), 0 ≤ n → 0 ≤ (numGo s f n a).1 ∧ (numGo s f n a).1 < (n + 1) * 10 ^ f ∧ a ≤ (numGo s f n a).2 ∧ (numGo s f n a).2 ≤ a + f
  | 0, n, a, h => by simp only [numGo, Int.pow_zero]; omega
  | f + 1, n, a, h => by
    have hp : (1 : Int) ≤ 10 ^ f := Int.pow_pos (by decide)
    have hself : n < (n + 1) * 10 ^ (f + 1) := by
      rw [Int.pow_succ]
      have : (n + 1) * 1 ≤ (n + 1) * (10 ^ f * 10) := Int.mul_le_mul_of_nonneg_left (by omega) (by omega)
      omega
    unfold numGo
    split
    · rename_i b _
      split
      · rename_i hb
        obtain ⟨h1, h2, h3, h4⟩ := numGo_bd s f (n * 10 + ((b.toNat : Int) - 48)) (a + 1) (by omega)
        refine ⟨h1, Int.lt_of_lt_of_le h2 ?_, by omega, by omega⟩
        rw [Int.pow_succ, ← Int.mul_assoc, Int.mul_right_comm]
        exact Int.mul_le_mul_of_nonneg_right (by omega) (by omega)
      · exact ⟨h, hself, Nat.le_refl _, by omega⟩
    · exact ⟨h, hself, Nat.le_refl _, by omega⟩

/-- The numbers that the reference reads, and where it stands behind them. -/
def scanS (s : List UInt8) : Nat → List Int × Nat
  | 0 => ([], 0)
  | k + 1 => ((scanS s k).1 ++ [(numGo s 5 0 (scanS s k).2).1], (numGo s 5 0 (scanS s k).2).2 + 1)
theorem scanS_bd (s : List UInt8) : ∀ k, (scanS s k).1.length = k ∧ (scanS s k).2 ≤ 6 * k ∧ ∀ x ∈ (scanS s k).1, 0 ≤ x ∧ x < 100000
  | 0 => ⟨rfl, by simp [scanS], fun x h => by simp [scanS] at h⟩
  | k + 1 => by
    obtain ⟨h1, h2, h3⟩ := scanS_bd s k
    obtain ⟨g1, g2, g3, g4⟩ := numGo_bd s 5 0 (scanS s k).2 (by decide)
    refine ⟨by simp [scanS, h1], by simp only [scanS]; omega, fun x hx => ?_⟩
    simp only [scanS, List.mem_append, List.mem_singleton] at hx
    rcases hx with hx | rfl
    · exact h3 x hx
    · exact ⟨g1, by simpa using g2⟩

def scanR (s : List UInt8) : Nat → Nat → List Int
  | 0, _ => []
  | k + 1, a => (numGo s 5 0 a).1 :: scanR s k ((numGo s 5 0 a).2 + 1)
theorem scan_eq (s : List UInt8) : ∀ (k m : Nat), (scanS s k).1 ++ scanR s m (scanS s k).2 = scanR s (k + m) 0
  | 0, m => by simp [scanS]
  | k + 1, m => by
    have := scan_eq s k (m + 1)
    rw [show k + 1 + m = k + (m + 1) by omega, ← this]
    simp [scanS, scanR]

def digVal (l : List UInt8) (n : Int) : Int := l.foldl (fun n b => n * 10 + ((b.toNat : Int) - 48)) n
theorem numGo_digits (s : List UInt8) : ∀ (l t : List UInt8) (f : Nat) (n : Int) (a : Nat), s.drop a = l ++ t → (∀ b ∈ l, 48 ≤ b.toNat ∧ b.toNat ≤ 57) → numGo s (l.length + f) n a = numGo s f (digVal l n) (a + l.length)
  | [], t, f, n, a, _, _ => by simp [digVal]
  | b :: l, t, f, n, a, h, hd => by
    have e : s[a]? = some b := by
      have := congrArg (·[0]?) h
      simpa [List.getElem?_drop] using this
    have h2 : s.drop (a + 1) = l ++ t := by
      have := congrArg (List.drop 1) h
      simpa [List.drop_drop, Nat.add_comm] using this
    rw [show (b :: l).length + f = (l.length + f) + 1 by simp; omega, numGo, e]
    simp only []
    rw [if_pos (hd b (by simp)), numGo_digits s l t f _ (a + 1) h2 (fun c hc => hd c (by simp [hc]))]
    simp only [digVal, List.foldl_cons, List.length_cons]
    congr 1; omega
theorem numGo_stop (s : List UInt8) (f : Nat) (n : Int) (a : Nat) (h : ∀ b, s[a]? = some b → ¬ (48 ≤ b.toNat ∧ b.toNat ≤ 57)) : numGo s f n a = (n, a) := by
  cases f with
  | zero => rfl
  | succ f =>
    unfold numGo
    split
    · rename_i b hb; rw [if_neg (h b hb)]
    · rfl
theorem dec_isdig (u : Nat) : ∀ b ∈ Lib.decDigits u, 48 ≤ b.toNat ∧ b.toNat ≤ 57 := by
  induction u using Nat.strongRecOn with
  | _ u ih =>
    by_cases h : u < 10
    · rw [Lib.decDigits_one h]
      intro b hb
      obtain rfl := List.mem_singleton.1 hb
      rw [UInt8.toNat_ofNat']; omega
    · rw [Lib.decDigits, dif_neg h]
      intro b hb
      rcases List.mem_append.1 hb with hb | hb
      · exact ih (u / 10) (by omega) b hb
      · obtain rfl := List.mem_singleton.1 hb
        rw [UInt8.toNat_ofNat']; omega
theorem dec_val (u : Nat) : digVal (Lib.decDigits u) 0 = (u : Int) := by
  induction u using Nat.strongRecOn with
  | _ u ih =>
    by_cases h : u < 10
    · rw [Lib.decDigits_one h]
      show (0 : Int) * 10 + (((UInt8.ofNat (48 + u)).toNat : Int) - 48) = u
      rw [UInt8.toNat_ofNat']; omega
    · rw [Lib.decDigits, dif_neg h]
      have := ih (u / 10) (by omega)
      unfold digVal at this ⊢
      rw [List.foldl_append, this]
      show (((u / 10 : Nat) : Int)) * 10 + (((UInt8.ofNat (48 + u % 10)).toNat : Int) - 48) = u
      rw [UInt8.toNat_ofNat']; omega

theorem scan_txt (s : List UInt8) : ∀ (ns : List Int) (i a : Nat), ns ≠ [] → i + ns.length = 11 → Fit i ns → s.drop a = txtN i ns → scanR s ns.length a = ns
  | [], _, _, h, _, _, _ => absurd rfl h
  | x :: r, i, a, _, hl, hf, hd => by
    obtain ⟨f0, f1, f2⟩ := hf
    simp only [List.length_cons] at hl
    have hlim : limOf (ps i) ≤ 65536 := (ps_12 i (by omega)).2
    obtain ⟨t, ht, hstop⟩ : ∃ t, s.drop a = dec x ++ t ∧ ∀ b, t[0]? = some b → ¬ (48 ≤ b.toNat ∧ b.toNat ≤ 57) := by
      cases r with
      | nil => exact ⟨[], by rw [hd, txtN, List.append_nil], fun b hb => by simp at hb⟩
      | cons y r =>
        refine ⟨signS.getD i 0 :: txtN (i + 1) (y :: r), by rw [hd, txtN], fun b hb => ?_⟩
        simp only [List.length_cons] at hl
        obtain rfl : signS.getD i 0 = b := by simpa using hb
        exact sign_no i (by omega)
    have hlen : (dec x).length ≤ 5 := dec_len _ (by omega)
    have hn : numGo s 5 0 a = (x, a + (dec x).length) := by
      have := numGo_digits s (dec x) t (5 - (dec x).length) 0 a ht (dec_isdig _)
      rw [show (dec x).length + (5 - (dec x).length) = 5 by omega] at this
      rw [this, show digVal (dec x) 0 = x by unfold dec; rw [dec_val]; omega]
      refine numGo_stop s _ _ _ fun b hb => hstop b ?_
      have := congrArg (·[(dec x).length]?) ht
      simp only [List.getElem?_drop] at this
      rw [hb] at this
      rw [List.getElem?_append_right (Nat.le_refl _), Nat.sub_self] at this
      exact this.symm
    show (numGo s 5 0 a).1 :: scanR s r.length ((numGo s 5 0 a).2 + 1) = _
    rw [hn]
    congr 1
    cases r with
    | nil => rfl
    | cons y r =>
      refine scan_txt s (y :: r) (i + 1) _ (by simp) (by simp only [List.length_cons] at hl ⊢; omega) f2 ?_
      have := congrArg (List.drop ((dec x).length + 1)) hd
      rw [List.drop_drop, txtN] at this
      rw [Nat.add_assoc, this, List.drop_append, List.drop_of_length_le (by omega), List.nil_append, show (dec x).length + 1 - (dec x).length = 1 by omega]
      rfl

theorem scan_nums (L : List Int) (hL : Byt L) : (scanS (txt L 11) 11).1 = nums L := by
  have h := scan_eq (txt L 11) 11 0
  simp only [scanR, List.append_nil] at h
  rw [h]
  exact scan_txt (txt L 11) (nums L) 0 0 (by simp [nums]) rfl (fit_nums L hL) (by rw [List.drop_zero, txt_nums])

theorem refP_some (s : List UInt8) (H : List Int) (h : parseB s 0 (-1) Z0 = some H) : Fit 0 (scanS s 11).1 ∧ txt (buildH Z0 0 (scanS s 11).1) 11 = s ∧ buildH Z0 0 (scanS s 11).1 = H := by
  have hp := text_parse s H h
  have hs : (scanS s 11).1 = nums H := by rw [hp.2]; exact scan_nums H hp.1
  rw [hs, build_nums H hp.1]
  exact ⟨fit_nums H hp.1, hp.2.symm, rfl⟩
theorem refP_none (s : List UInt8) (h : parseB s 0 (-1) Z0 = none) (h1 : Fit 0 (scanS s 11).1) (h2 : txt (buildH Z0 0 (scanS s 11).1) 11 = s) : False := by
  have r1 := (nums_build (scanS s 11).1 (scanS_bd s 11).1 h1).1
  have ht := parse_text _ r1
  rw [h2, h] at ht
  cases ht
end Go.Proofs.YtjfbahpaahlidaaDoor
