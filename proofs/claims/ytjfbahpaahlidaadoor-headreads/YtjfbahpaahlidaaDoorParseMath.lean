import Derived.Test.YtjfbahpaahlidaaDoorParse
namespace Go.Proofs.YtjfbahpaahlidaaDoor
open Go Go.RowKit

/-- The numbers that a text's rest holds, from place i on, the number so far being n (-1: none). -/
def parseN : List UInt8 → Nat → Int → Option (List Int)
  | [], i, n => if n = -1 ∨ i < 10 then none else some [n]
  | b :: r, i, n =>
    if 48 ≤ b.toNat ∧ b.toNat ≤ 57 then
      if n = -1 then parseN r i ((b.toNat : Int) - 48)
      else if n = 0 ∨ limOf (ps i) ≤ n * 10 + ((b.toNat : Int) - 48) then none
      else parseN r i (n * 10 + ((b.toNat : Int) - 48))
    else if n = -1 ∨ i = 10 ∨ b ≠ signS.getD i 0 then none
    else (parseN r (i + 1) (-1)).map (n :: ·)

def buildH (h : List Int) : Nat → List Int → List Int
  | _, [] => h
  | i, x :: r => buildH (putN h (pa i) (ps i) x (ps i)) (i + 1) r

theorem parseB_N : ∀ (s : List UInt8) (i : Nat) (n : Int) (h : List Int), parseB s i n h = (parseN s i n).map (buildH h i)
  | [], i, n, h => by
    unfold parseB parseN
    by_cases c : n = -1 ∨ i < 10
    · rw [if_pos c, if_pos c]; rfl
    · rw [if_neg c, if_neg c]; rfl
  | b :: r, i, n, h => by
    unfold parseB parseN
    by_cases c1 : 48 ≤ b.toNat ∧ b.toNat ≤ 57
    · rw [if_pos c1, if_pos c1]
      by_cases c2 : n = -1
      · rw [if_pos c2, if_pos c2, parseB_N r]
      · rw [if_neg c2, if_neg c2]
        by_cases c3 : n = 0 ∨ limOf (ps i) ≤ n * 10 + ((b.toNat : Int) - 48)
        · rw [if_pos c3, if_pos c3]; rfl
        · rw [if_neg c3, if_neg c3, parseB_N r]
    · rw [if_neg c1, if_neg c1]
      by_cases c2 : n = -1 ∨ i = 10 ∨ b ≠ signS.getD i 0
      · rw [if_pos c2, if_pos c2]; rfl
      · rw [if_neg c2, if_neg c2, parseB_N r, Option.map_map]; rfl

def dec (x : Int) : List UInt8 := Lib.decDigits x.toNat
def txtN : Nat → List Int → List UInt8
  | _, [] => []
  | _, [x] => dec x
  | i, x :: y :: r => dec x ++ signS.getD i 0 :: txtN (i + 1) (y :: r)
/-- The numbers fit their places, from place i on. -/
def Fit : Nat → List Int → Prop
  | _, [] => True
  | i, x :: r => 0 ≤ x ∧ x < limOf (ps i) ∧ Fit (i + 1) r

theorem dec_digit (d : Nat) (h : d < 10) : dec (d : Int) = [UInt8.ofNat (48 + d)] := by
  unfold dec; rw [Int.toNat_natCast, Lib.decDigits_one h]
theorem dec_next (n d : Int) (hn : 1 ≤ n) (h0 : 0 ≤ d) (h1 : d ≤ 9) : dec (n * 10 + d) = dec n ++ [UInt8.ofNat (48 + d.toNat)] := by
  unfold dec
  rw [Lib.decDigits, dif_neg (by omega), show (n * 10 + d).toNat / 10 = n.toNat by omega, show (n * 10 + d).toNat % 10 = d.toNat by omega]
theorem byte_back (b : UInt8) (h : 48 ≤ b.toNat ∧ b.toNat ≤ 57) : UInt8.ofNat (48 + ((b.toNat : Int) - 48).toNat) = b := by
  rw [show 48 + ((b.toNat : Int) - 48).toNat = b.toNat by omega]
  exact UInt8.ofNat_toNat

theorem parseN_sound : ∀ (s : List UInt8) (i : Nat) (n : Int) (ns : List Int), i ≤ 10 → -1 ≤ n → n < limOf (ps i) → parseN s i n = some ns →
    i + ns.length = 11 ∧ Fit i ns ∧ (if n = -1 then [] else dec n) ++ s = txtN i ns
  | [], i, n, ns, hi, h0, h1, h => by
    unfold parseN at h
    by_cases c : n = -1 ∨ i < 10
    · rw [if_pos c] at h; cases h
    · rw [if_neg c] at h
      obtain rfl := Option.some.inj h
      have hn : ¬ n = -1 := fun e => c (Or.inl e)
      rw [if_neg hn]
      refine ⟨by simp; omega, ⟨by omega, h1, trivial⟩, by simp [txtN]⟩
  | b :: r, i, n, ns, hi, h0, h1, h => by
    have hlim := (show 256 ≤ limOf (ps i) by
      rcases (show i = 0 ∨ i = 1 ∨ i = 2 ∨ i = 3 ∨ i = 4 ∨ i = 5 ∨ i = 6 ∨ i = 7 ∨ i = 8 ∨ i = 9 ∨ i = 10 by omega) with e | e | e | e | e | e | e | e | e | e | e <;> subst e <;> decide)
    unfold parseN at h
    by_cases c1 : 48 ≤ b.toNat ∧ b.toNat ≤ 57
    · rw [if_pos c1] at h
      by_cases c2 : n = -1
      · rw [if_pos c2] at h
        obtain ⟨q1, q2, q3⟩ := parseN_sound r i _ ns hi (by omega) (by omega) h
        refine ⟨q1, q2, ?_⟩
        rw [if_pos c2, ← q3, if_neg (by omega)]
        have := dec_digit ((b.toNat : Int) - 48).toNat (by omega)
        rw [Int.toNat_of_nonneg (by omega), byte_back b c1] at this
        rw [this]; rfl
      · rw [if_neg c2] at h
        by_cases c3 : n = 0 ∨ limOf (ps i) ≤ n * 10 + ((b.toNat : Int) - 48)
        · rw [if_pos c3] at h; cases h
        · rw [if_neg c3] at h
          obtain ⟨q1, q2, q3⟩ := parseN_sound r i _ ns hi (by omega) (by omega) h
          refine ⟨q1, q2, ?_⟩
          rw [if_neg c2, ← q3, if_neg (by omega), dec_next n _ (by omega) (by omega) (by omega), byte_back b c1]
          simp
    · rw [if_neg c1] at h
      by_cases c2 : n = -1 ∨ i = 10 ∨ b ≠ signS.getD i 0
      · rw [if_pos c2] at h; cases h
      · rw [if_neg c2] at h
        have c21 : ¬ n = -1 := fun e => c2 (Or.inl e)
        have c22 : ¬ i = 10 := fun e => c2 (Or.inr (Or.inl e))
        have c23 : b = signS.getD i 0 := Classical.byContradiction fun e => c2 (Or.inr (Or.inr e))
        obtain ⟨ms, hm, rfl⟩ := Option.map_eq_some_iff.1 h
        obtain ⟨q1, q2, q3⟩ := parseN_sound r (i + 1) (-1) ms (by omega) (by omega) (by
          rcases (show i = 0 ∨ i = 1 ∨ i = 2 ∨ i = 3 ∨ i = 4 ∨ i = 5 ∨ i = 6 ∨ i = 7 ∨ i = 8 ∨ i = 9 by omega) with e | e | e | e | e | e | e | e | e | e <;> subst e <;> decide) hm
        refine ⟨by simp only [List.length_cons]; omega, ⟨by omega, h1, q2⟩, ?_⟩
        rw [if_neg c21]
        rw [if_pos rfl, List.nil_append] at q3
        match ms, q1, q3 with
        | [], q1, _ => simp at q1; omega
        | y :: t, _, q3 => rw [txtN, ← q3, c23]

/-- A number's digits bring the number. -/
theorem parseN_digits (i : Nat) (u : Nat) : ∀ (t : List UInt8), (u : Int) < limOf (ps i) → parseN (Lib.decDigits u ++ t) i (-1) = parseN t i (u : Int) := by
  induction u using Nat.strongRecOn with
  | _ u ih =>
    intro t hu
    by_cases h10 : u < 10
    · rw [Lib.decDigits_one h10]
      have e : (UInt8.ofNat (48 + u)).toNat = 48 + u := by rw [UInt8.toNat_ofNat']; omega
      show parseN (UInt8.ofNat (48 + u) :: t) i (-1) = _
      rw [parseN, if_pos (by rw [e]; omega), if_pos rfl, e]
      congr 1; omega
    · rw [Lib.decDigits, dif_neg h10, List.append_assoc, ih (u / 10) (by omega) _ (by omega)]
      have e : (UInt8.ofNat (48 + u % 10)).toNat = 48 + u % 10 := by rw [UInt8.toNat_ofNat']; omega
      show parseN (UInt8.ofNat (48 + u % 10) :: t) i _ = _
      rw [parseN, if_pos (by rw [e]; omega), if_neg (by omega), e, if_neg (by omega)]
      congr 1; omega

theorem sign_no (i : Nat) (hi : i < 10) : ¬ (48 ≤ (signS.getD i 0).toNat ∧ (signS.getD i 0).toNat ≤ 57) := by
  rcases (show i = 0 ∨ i = 1 ∨ i = 2 ∨ i = 3 ∨ i = 4 ∨ i = 5 ∨ i = 6 ∨ i = 7 ∨ i = 8 ∨ i = 9 by omega) with e | e | e | e | e | e | e | e | e | e <;> subst e <;> decide

theorem parseN_complete : ∀ (ns : List Int) (i : Nat), ns ≠ [] → i + ns.length = 11 → Fit i ns → parseN (txtN i ns) i (-1) = some ns
  | [], _, h, _, _ => absurd rfl h
  | [x], i, _, hl, hf => by
    obtain ⟨f0, f1, _⟩ := hf
    simp only [List.length_cons, List.length_nil] at hl
    have := parseN_digits i x.toNat [] (by omega)
    rw [List.append_nil, Int.toNat_of_nonneg f0] at this
    rw [txtN, dec, this, parseN, if_neg (by omega)]
  | x :: y :: r, i, _, hl, hf => by
    obtain ⟨f0, f1, f2⟩ := hf
    simp only [List.length_cons] at hl
    have ih := parseN_complete (y :: r) (i + 1) (by simp) (by simp only [List.length_cons]; omega) f2
    have := parseN_digits i x.toNat (signS.getD i 0 :: txtN (i + 1) (y :: r)) (by omega)
    rw [Int.toNat_of_nonneg f0] at this
    rw [txtN, dec, this, parseN, if_neg (sign_no i (by omega)), if_neg (by
      rintro (e | e | e)
      · omega
      · omega
      · exact e rfl), ih]
    rfl

def nums (L : List Int) : List Int := [(numAt L 0 : Int), numAt L 1, numAt L 2, numAt L 3, numAt L 4, numAt L 5, numAt L 6, numAt L 7, numAt L 8, numAt L 9, numAt L 10]
theorem txt_nums (L : List Int) : txt L 11 = txtN 0 (nums L) := by
  simp [txt, txtN, nums, dec, signS]

theorem eleven (ns : List Int) (h : ns.length = 11) : ∃ a b c d e f g i j k l, ns = [a, b, c, d, e, f, g, i, j, k, l] := by
  match ns, h with
  | [a, b, c, d, e, f, g, i, j, k, l], _ => exact ⟨a, b, c, d, e, f, g, i, j, k, l, rfl⟩
theorem thirteen (ns : List Int) (h : ns.length = 13) : ∃ a b c d e f g i j k l m n, ns = [a, b, c, d, e, f, g, i, j, k, l, m, n] := by
  match ns, h with
  | [a, b, c, d, e, f, g, i, j, k, l, m, n], _ => exact ⟨a, b, c, d, e, f, g, i, j, k, l, m, n, rfl⟩

abbrev Z0 : List Int := [0, 0, 0, 0, 0, 0, 0, 0, 0, 0, 0, 0, 0]
theorem build_list (a b c d e f g i j k l : Int) : buildH Z0 0 [a, b, c, d, e, f, g, i, j, k, l] = [a / 2 ^ 0 % 256, b / 2 ^ 0 % 256, c / 2 ^ 0 % 256, d / 2 ^ 0 % 256, f / 2 ^ 0 % 256, g / 2 ^ 0 % 256, i / 2 ^ 0 % 256, j / 2 ^ 0 % 256, e / 2 ^ 8 % 256, e / 2 ^ 0 % 256, k / 2 ^ 8 % 256, k / 2 ^ 0 % 256, l / 2 ^ 0 % 256] := rfl

theorem fit_nums (L : List Int) (hL : Byt L) : Fit 0 (nums L) := by
  have hb : ∀ k, k < 11 → 0 ≤ (numAt L k : Int) ∧ (numAt L k : Int) < limOf (ps k) := fun k hk => by
    have h := getN_bd L hL (pa k) (ps k)
    unfold numAt limOf
    omega
  exact ⟨(hb 0 (by decide)).1, (hb 0 (by decide)).2, (hb 1 (by decide)).1, (hb 1 (by decide)).2, (hb 2 (by decide)).1, (hb 2 (by decide)).2, (hb 3 (by decide)).1, (hb 3 (by decide)).2, (hb 4 (by decide)).1, (hb 4 (by decide)).2, (hb 5 (by decide)).1, (hb 5 (by decide)).2, (hb 6 (by decide)).1, (hb 6 (by decide)).2, (hb 7 (by decide)).1, (hb 7 (by decide)).2, (hb 8 (by decide)).1, (hb 8 (by decide)).2, (hb 9 (by decide)).1, (hb 9 (by decide)).2, (hb 10 (by decide)).1, (hb 10 (by decide)).2, trivial⟩

theorem build_nums (L : List Int) (hL : Byt L) : buildH Z0 0 (nums L) = L := by
  obtain ⟨x0, x1, x2, x3, x4, x5, x6, x7, x8, x9, x10, x11, x12, rfl⟩ := thirteen L hL.1
  have b0 : 0 ≤ x0 ∧ x0 < 256 := hL.2 0
  have b1 : 0 ≤ x1 ∧ x1 < 256 := hL.2 1
  have b2 : 0 ≤ x2 ∧ x2 < 256 := hL.2 2
  have b3 : 0 ≤ x3 ∧ x3 < 256 := hL.2 3
  have b4 : 0 ≤ x4 ∧ x4 < 256 := hL.2 4
  have b5 : 0 ≤ x5 ∧ x5 < 256 := hL.2 5
  have b6 : 0 ≤ x6 ∧ x6 < 256 := hL.2 6
  have b7 : 0 ≤ x7 ∧ x7 < 256 := hL.2 7
  have b8 : 0 ≤ x8 ∧ x8 < 256 := hL.2 8
  have b9 : 0 ≤ x9 ∧ x9 < 256 := hL.2 9
  have b10 : 0 ≤ x10 ∧ x10 < 256 := hL.2 10
  have b11 : 0 ≤ x11 ∧ x11 < 256 := hL.2 11
  have b12 : 0 ≤ x12 ∧ x12 < 256 := hL.2 12
  unfold nums
  rw [build_list]
  show [((0 * 256 + x0).toNat : Int) / 2 ^ 0 % 256, ((0 * 256 + x1).toNat : Int) / 2 ^ 0 % 256, ((0 * 256 + x2).toNat : Int) / 2 ^ 0 % 256, ((0 * 256 + x3).toNat : Int) / 2 ^ 0 % 256, ((0 * 256 + x4).toNat : Int) / 2 ^ 0 % 256, ((0 * 256 + x5).toNat : Int) / 2 ^ 0 % 256, ((0 * 256 + x6).toNat : Int) / 2 ^ 0 % 256, ((0 * 256 + x7).toNat : Int) / 2 ^ 0 % 256, (((0 * 256 + x8) * 256 + x9).toNat : Int) / 2 ^ 8 % 256, (((0 * 256 + x8) * 256 + x9).toNat : Int) / 2 ^ 0 % 256, (((0 * 256 + x10) * 256 + x11).toNat : Int) / 2 ^ 8 % 256, (((0 * 256 + x10) * 256 + x11).toNat : Int) / 2 ^ 0 % 256, ((0 * 256 + x12).toNat : Int) / 2 ^ 0 % 256] = _
  congr 1
  · omega
  congr 1
  · omega
  congr 1
  · omega
  congr 1
  · omega
  congr 1
  · omega
  congr 1
  · omega
  congr 1
  · omega
  congr 1
  · omega
  congr 1
  · omega
  congr 1
  · omega
  congr 1
  · omega
  congr 1
  · omega
  congr 1
  omega

theorem nums_build (ns : List Int) (hl : ns.length = 11) (hf : Fit 0 ns) : Byt (buildH Z0 0 ns) ∧ nums (buildH Z0 0 ns) = ns := by
  obtain ⟨a, b, c, d, e, f, g, i, j, k, l, rfl⟩ := eleven ns hl
  obtain ⟨a0, a1, b0, b1, c0, c1, d0, d1, e0, e1, f0, f1, g0, g1, i0, i1, j0, j1, k0, k1, l0, l1, _⟩ := hf
  have a1 : a < 256 := a1
  have b1 : b < 256 := b1
  have c1 : c < 256 := c1
  have d1 : d < 256 := d1
  have e1 : e < 65536 := e1
  have f1 : f < 256 := f1
  have g1 : g < 256 := g1
  have i1 : i < 256 := i1
  have j1 : j < 256 := j1
  have k1 : k < 65536 := k1
  have l1 : l < 256 := l1
  rw [build_list]
  refine ⟨⟨rfl, fun q => ?_⟩, ?_⟩
  · rcases Nat.lt_or_ge q 13 with h | h
    · rcases (show q = 0 ∨ q = 1 ∨ q = 2 ∨ q = 3 ∨ q = 4 ∨ q = 5 ∨ q = 6 ∨ q = 7 ∨ q = 8 ∨ q = 9 ∨ q = 10 ∨ q = 11 ∨ q = 12 by omega) with e | e | e | e | e | e | e | e | e | e | e | e | e <;> subst e <;> exact ⟨Int.emod_nonneg _ (by decide), Int.emod_lt_of_pos _ (by decide)⟩
    · rw [List.getD, List.getElem?_eq_none (by simpa using h)]; decide
  · show [((0 * 256 + a / 2 ^ 0 % 256).toNat : Int), ((0 * 256 + b / 2 ^ 0 % 256).toNat : Int), ((0 * 256 + c / 2 ^ 0 % 256).toNat : Int), ((0 * 256 + d / 2 ^ 0 % 256).toNat : Int), (((0 * 256 + e / 2 ^ 8 % 256) * 256 + e / 2 ^ 0 % 256).toNat : Int), ((0 * 256 + f / 2 ^ 0 % 256).toNat : Int), ((0 * 256 + g / 2 ^ 0 % 256).toNat : Int), ((0 * 256 + i / 2 ^ 0 % 256).toNat : Int), ((0 * 256 + j / 2 ^ 0 % 256).toNat : Int), (((0 * 256 + k / 2 ^ 8 % 256) * 256 + k / 2 ^ 0 % 256).toNat : Int), ((0 * 256 + l / 2 ^ 0 % 256).toNat : Int)] = _
    congr 1
    · omega
    congr 1
    · omega
    congr 1
    · omega
    congr 1
    · omega
    congr 1
    · omega
    congr 1
    · omega
    congr 1
    · omega
    congr 1
    · omega
    congr 1
    · omega
    congr 1
    · omega
    congr 1
    omega

/-- THE TEXT OF A HEADER IS READ AS THAT HEADER. -/
theorem parse_text (L : List Int) (hL : Byt L) : parseB (txt L 11) 0 (-1) Z0 = some L := by
  rw [parseB_N, txt_nums, parseN_complete (nums L) 0 (by simp [nums]) rfl (fit_nums L hL)]
  show some (buildH Z0 0 (nums L)) = _
  rw [build_nums L hL]
/-- WHAT IS READ AS A HEADER IS THAT HEADER'S TEXT. -/
theorem text_parse (s : List UInt8) (H : List Int) (h : parseB s 0 (-1) Z0 = some H) : Byt H ∧ s = txt H 11 := by
  rw [parseB_N] at h
  obtain ⟨ns, hn, rfl⟩ := Option.map_eq_some_iff.1 h
  obtain ⟨q1, q2, q3⟩ := parseN_sound s 0 (-1) ns (by decide) (by decide) (by decide) hn
  obtain ⟨r1, r2⟩ := nums_build ns (by omega) q2
  refine ⟨r1, ?_⟩
  rw [txt_nums, r2, ← q3]; rfl
end Go.Proofs.YtjfbahpaahlidaaDoor
