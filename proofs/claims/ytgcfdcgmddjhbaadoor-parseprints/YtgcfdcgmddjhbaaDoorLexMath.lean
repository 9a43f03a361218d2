import Derived.Test.YtgcfdcgmddjhbaaDoorProg
namespace Go.Proofs.YtgcfdcgmddjhbaaDoor
open Go
set_option maxRecDepth 20000

/-- A token. -/
structure Tok where
  kind : Nat
  pos : Nat
  text : List UInt8
  num : Nat

def isLet (c : UInt8) : Bool := decide (97 ≤ c.toNat) && decide (c.toNat ≤ 122)
def isDig (c : UInt8) : Bool := decide (48 ≤ c.toNat) && decide (c.toNat ≤ 57)
def isBlank (c : UInt8) : Bool := c == 9 || c == 13 || c == 32
def notEnd (c : UInt8) : Bool := c != 10
/-- Digits as a number. -/
def val (D : List UInt8) : Nat := D.foldl (fun n c => n * 10 + (c.toNat - 48)) 0
/-- Digits as a number that may be. -/
def numOf (D : List UInt8) : Option Nat := if decide (4294967295 < val D) || (decide (1 < D.length) && D.head? == some 48) then none else some (val D)

/-- What begins at a place: nothing, a token, or something wrong. -/
abbrev Lx := Except Nat (Option (Nat × List UInt8 × Nat))
abbrev Lx.none : Lx := Except.ok Option.none
abbrev Lx.tok (k : Nat) (t : List UInt8) (v : Nat) : Lx := Except.ok (some (k, t, v))
abbrev Lx.err (e : Nat) : Lx := Except.error e

/-- What begins with a byte, and how many more bytes it has. -/
def lexeme (c : UInt8) (r : List UInt8) : Lx × Nat :=
  if isBlank c then (Lx.none, 0)
  else if isLet c then (Lx.tok 1 (c :: r.takeWhile isLet) 0, (r.takeWhile isLet).length)
  else if isDig c then (match numOf (c :: r.takeWhile isDig) with | some n => Lx.tok 2 [] n | Option.none => Lx.err 7, (r.takeWhile isDig).length)
  else if c == 46 then (Lx.tok 3 [] 0, 0)
  else if c == 47 then (Lx.tok 4 [] 0, 0)
  else if c == 45 then (if r.head? == some 62 then (Lx.tok 6 [] 0, 1) else (Lx.tok 5 [] 0, 0))
  else if c == 10 then (Lx.tok 7 [] 0, 0)
  else if c == 35 then (Lx.none, (r.takeWhile notEnd).length)
  else (Lx.err 6, 0)

/-- Tokens ahead of what comes to be. -/
def glue (P : List Tok) : Except (Nat × Nat) (List Tok) → Except (Nat × Nat) (List Tok)
  | .ok l => .ok (P ++ l)
  | .error x => .error x
theorem glue_glue (P Q : List Tok) (x : Except (Nat × Nat) (List Tok)) : glue P (glue Q x) = glue (P ++ Q) x := by
  cases x <;> simp [glue]
theorem glue_nil (x : Except (Nat × Nat) (List Tok)) : glue [] x = x := by cases x <;> rfl

/-- The tokens of a text that begins at a place, so many steps at most. -/
def lexF : Nat → Nat → List UInt8 → Except (Nat × Nat) (List Tok)
  | 0, _, _ => .ok []
  | _ + 1, _, [] => .ok []
  | f + 1, p, c :: r => match lexeme c r with
    | (.ok Option.none, n) => lexF f (p + 1 + n) (r.drop n)
    | (.ok (some (k, t, v)), n) => glue [⟨k, p, t, v⟩] (lexF f (p + 1 + n) (r.drop n))
    | (.error e, _) => .error (e, p)
/-- The tokens of a text that begins at a place. -/
def lexW (p : Nat) (S : List UInt8) : Except (Nat × Nat) (List Tok) := lexF S.length p S
theorem lexF_more : ∀ (f g p : Nat) (S : List UInt8), S.length ≤ f → S.length ≤ g → lexF f p S = lexF g p S
  | 0, 0, _, _, _, _ => rfl
  | 0, g + 1, p, S, hf, _ => by
    obtain rfl : S = [] := List.eq_nil_of_length_eq_zero (by omega)
    rfl
  | f + 1, 0, p, S, _, hg => by
    obtain rfl : S = [] := List.eq_nil_of_length_eq_zero (by omega)
    rfl
  | f + 1, g + 1, p, [], _, _ => rfl
  | f + 1, g + 1, p, c :: r, hf, hg => by
    have hl : ∀ n, (r.drop n).length ≤ f ∧ (r.drop n).length ≤ g := fun n => by simp at hf hg ⊢; omega
    have ih : ∀ q n, lexF f q (r.drop n) = lexF g q (r.drop n) := fun q n => lexF_more f g q (r.drop n) (hl n).1 (hl n).2
    simp only [lexF, ih]

theorem lexW_nil (p : Nat) : lexW p [] = .ok [] := rfl
theorem lexW_none {p : Nat} {c : UInt8} {r : List UInt8} {n : Nat} (h : lexeme c r = (Lx.none, n)) : lexW p (c :: r) = lexW (p + 1 + n) (r.drop n) := by
  unfold lexW
  rw [List.length_cons, lexF, h]
  exact lexF_more _ _ _ _ (by simp) (Nat.le_refl _)
theorem lexW_tok {p : Nat} {c : UInt8} {r : List UInt8} {n k v : Nat} {t : List UInt8} (h : lexeme c r = (Lx.tok k t v, n)) : lexW p (c :: r) = glue [⟨k, p, t, v⟩] (lexW (p + 1 + n) (r.drop n)) := by
  unfold lexW
  rw [List.length_cons, lexF, h]
  exact congrArg (glue _) (lexF_more _ _ _ _ (by simp) (Nat.le_refl _))
theorem lexW_err {p : Nat} {c : UInt8} {r : List UInt8} {n e : Nat} (h : lexeme c r = (Lx.err e, n)) : lexW p (c :: r) = .error (e, p) := by
  unfold lexW
  rw [List.length_cons, lexF, h]

/-- An induction along the text. -/
theorem lexW_induct (Q : Nat → List UInt8 → Prop) (h0 : ∀ p, Q p []) (h1 : ∀ p c r n, lexeme c r = (Lx.none, n) → Q (p + 1 + n) (r.drop n) → Q p (c :: r))
    (h2 : ∀ p c r n k t v, lexeme c r = (Lx.tok k t v, n) → Q (p + 1 + n) (r.drop n) → Q p (c :: r)) (h3 : ∀ p c r n e, lexeme c r = (Lx.err e, n) → Q p (c :: r)) : ∀ S p, Q p S := by
  have key : ∀ d (S : List UInt8) p, S.length ≤ d → Q p S := by
    intro d
    induction d with
    | zero => intro S p hS; obtain rfl : S = [] := List.eq_nil_of_length_eq_zero (by omega); exact h0 p
    | succ d ih =>
      intro S p hS
      cases S with
      | nil => exact h0 p
      | cons c r =>
        have hl : ∀ n, (r.drop n).length ≤ d := fun n => by simp at hS ⊢; omega
        rcases hx : lexeme c r with ⟨x, n⟩
        rcases x with e | _ | ⟨k, t, v⟩
        · exact h3 p c r n e hx
        · exact h1 p c r n hx (ih _ _ (hl n))
        · exact h2 p c r n k t v hx (ih _ _ (hl n))
  exact fun S p => key _ S p (Nat.le_refl _)

theorem takeWhile_le (q : UInt8 → Bool) (r : List UInt8) : (r.takeWhile q).length ≤ r.length := (List.takeWhile_prefix q).length_le
theorem takeWhile_take (q : UInt8 → Bool) : ∀ r : List UInt8, r.take (r.takeWhile q).length = r.takeWhile q
  | [] => rfl
  | c :: r => by
    rw [List.takeWhile_cons]
    cases h : q c
    · simp
    · simp [takeWhile_take q r]
/-- No lexeme has more bytes than there are. -/
theorem lexeme_le (c : UInt8) (r : List UInt8) : (lexeme c r).2 ≤ r.length := by
  unfold lexeme
  have h1 := takeWhile_le isLet r
  have h2 := takeWhile_le isDig r
  have h3 := takeWhile_le notEnd r
  repeat' split
  all_goals first | exact Nat.zero_le _ | exact h1 | exact h2 | exact h3 | skip
  rename_i h
  cases r with
  | nil => simp at h
  | cons d r => simp
theorem lexeme_word {c : UInt8} {r : List UInt8} {n k v : Nat} {t : List UInt8} (h : lexeme c r = (Lx.tok k t v, n)) (hk : k = 1) : t = c :: r.take n := by
  unfold lexeme at h
  repeat' split at h
  all_goals simp only [Prod.mk.injEq, Except.ok.injEq, Option.some.injEq, reduceCtorEq, false_and] at h
  · obtain ⟨⟨_, rfl, _⟩, rfl⟩ := h
    rw [takeWhile_take]
  all_goals try omega
  all_goals
    split at h
    · simp only [Except.ok.injEq, Option.some.injEq, Prod.mk.injEq] at h; omega
    · simp at h

/-- Tokens lie within the text, and rise; a word stands where it is told to. -/
theorem lexW_places : ∀ (S : List UInt8) (p : Nat) (l : List Tok), lexW p S = .ok l →
    (∀ (i : Nat) (t : Tok), l[i]? = some t → p ≤ t.pos ∧ t.pos < p + S.length ∧ (t.kind = 1 → t.pos + t.text.length ≤ p + S.length ∧ (S.drop (t.pos - p)).take t.text.length = t.text)) ∧
    (∀ (i : Nat) (a b : Tok), l[i]? = some a → l[i + 1]? = some b → a.pos < b.pos) ∧ l.length ≤ S.length := by
  refine lexW_induct _ (fun p l h => ?_) (fun p c r n hx ih l h => ?_) (fun p c r n k t v hx ih l h => ?_) (fun p c r n e hx l h => ?_)
  · rw [lexW_nil] at h
    obtain rfl : [] = l := Except.ok.inj h
    refine ⟨fun i t ht => by simp at ht, fun i a b ha => by simp at ha, Nat.zero_le _⟩
  · rw [lexW_none hx] at h
    have hn : n ≤ r.length := by have := lexeme_le c r; rw [hx] at this; exact this
    have hl : (r.drop n).length = r.length - n := List.length_drop
    obtain ⟨h1, h2, h3⟩ := ih l h
    refine ⟨fun i t ht => ?_, h2, by simp at h3 ⊢; omega⟩
    obtain ⟨g1, g2, g3⟩ := h1 i t ht
    refine ⟨by omega, by simp; omega, fun hk => ?_⟩
    obtain ⟨g4, g5⟩ := g3 hk
    refine ⟨by simp; omega, ?_⟩
    rw [show t.pos - p = (n + (t.pos - (p + 1 + n))) + 1 by omega, List.drop_succ_cons, ← List.drop_drop]
    exact g5
  · rw [lexW_tok hx] at h
    have hn : n ≤ r.length := by have := lexeme_le c r; rw [hx] at this; exact this
    have hl : (r.drop n).length = r.length - n := List.length_drop
    cases hy : lexW (p + 1 + n) (r.drop n) with
    | error x => rw [hy] at h; simp [glue] at h
    | ok l' =>
      rw [hy] at h
      obtain rfl : ⟨k, p, t, v⟩ :: l' = l := by simpa [glue] using h
      obtain ⟨h1, h2, h3⟩ := ih l' hy
      refine ⟨fun i u hu => ?_, fun i a b ha hb => ?_, by simp at h3 ⊢; omega⟩
      · cases i with
        | zero =>
          obtain rfl : ⟨k, p, t, v⟩ = u := by simpa using hu
          refine ⟨Nat.le_refl _, by simp, fun hk => ?_⟩
          have ht := lexeme_word hx hk
          subst ht
          simp only [List.length_cons, List.length_take, Nat.sub_self, List.drop_zero]
          refine ⟨by omega, ?_⟩
          rw [Nat.min_eq_left hn, List.take_succ_cons]
        | succ i =>
          obtain ⟨g1, g2, g3⟩ := h1 i u (by simpa using hu)
          refine ⟨by omega, by simp; omega, fun hk => ?_⟩
          obtain ⟨g4, g5⟩ := g3 hk
          refine ⟨by simp; omega, ?_⟩
          rw [show u.pos - p = (n + (u.pos - (p + 1 + n))) + 1 by omega, List.drop_succ_cons, ← List.drop_drop]
          exact g5
      · cases i with
        | zero =>
          obtain rfl : ⟨k, p, t, v⟩ = a := by simpa using ha
          have := (h1 0 b (by simpa using hb)).1
          show p < b.pos
          omega
        | succ i => exact h2 i a b (by simpa using ha) (by simpa using hb)
  · rw [lexW_err hx] at h; cases h
/-- What is wrong lies within the text. -/
theorem lexW_error : ∀ (S : List UInt8) (p e q : Nat), lexW p S = .error (e, q) → p ≤ q ∧ q < p + S.length ∧ (e = 6 ∨ e = 7) := by
  refine lexW_induct _ (fun p e q h => ?_) (fun p c r n hx ih e q h => ?_) (fun p c r n k t v hx ih e q h => ?_) (fun p c r n e' hx e q h => ?_)
  · rw [lexW_nil] at h; cases h
  · rw [lexW_none hx] at h
    have hn : n ≤ r.length := by have := lexeme_le c r; rw [hx] at this; exact this
    have := ih e q h
    simp at this ⊢
    omega
  · rw [lexW_tok hx] at h
    have hn : n ≤ r.length := by have := lexeme_le c r; rw [hx] at this; exact this
    cases hy : lexW (p + 1 + n) (r.drop n) with
    | error x =>
      rw [hy] at h
      obtain rfl : x = (e, q) := by simpa [glue] using h
      have := ih e q hy
      simp at this ⊢
      omega
    | ok l' => rw [hy] at h; simp [glue] at h
  · rw [lexW_err hx] at h
    obtain ⟨rfl, rfl⟩ := Prod.mk.inj (Except.error.inj h)
    refine ⟨Nat.le_refl _, by simp, ?_⟩
    unfold lexeme at hx
    repeat' split at hx
    all_goals simp only [Prod.mk.injEq, Except.error.injEq, reduceCtorEq, false_and] at hx
    all_goals omega

/-- Tokens so many places on. -/
def sh (d : Nat) (t : Tok) : Tok := ⟨t.kind, t.pos + d, t.text, t.num⟩
def shiftE (d : Nat) : Except (Nat × Nat) (List Tok) → Except (Nat × Nat) (List Tok)
  | .ok l => .ok (l.map (sh d))
  | .error x => .error (x.1, x.2 + d)
theorem lexW_shift (d : Nat) : ∀ (S : List UInt8) (p : Nat), lexW (p + d) S = shiftE d (lexW p S) := by
  refine lexW_induct _ (fun p => ?_) (fun p c r n hx ih => ?_) (fun p c r n k t v hx ih => ?_) (fun p c r n e hx => ?_)
  · rw [lexW_nil, lexW_nil]; rfl
  · rw [lexW_none hx, lexW_none hx, ← ih]; congr 1; omega
  · rw [lexW_tok hx, lexW_tok hx, show p + d + 1 + n = p + 1 + n + d by omega, ih]
    cases lexW (p + 1 + n) (r.drop n) <;> rfl
  · rw [lexW_err hx, lexW_err hx]; rfl

theorem takeWhile_append_stop (q : UInt8 → Bool) (Y : List UInt8) (hY : ∀ y, Y.head? = some y → q y = false) : ∀ X : List UInt8, (∀ x ∈ X, q x = true) → (X ++ Y).takeWhile q = X
  | [], _ => by
    cases Y with
    | nil => rfl
    | cons y Y => simp [hY y rfl]
  | x :: X, h => by
    have hx := h x (by simp)
    rw [List.cons_append, List.takeWhile_cons, if_pos hx, takeWhile_append_stop q Y hY X fun z hz => h z (by simp [hz])]
theorem takeWhile_all (q : UInt8 → Bool) : ∀ (r : List UInt8), ∀ x ∈ r.takeWhile q, q x = true
  | [], x, hx => by simp at hx
  | c :: r, x, hx => by
    rw [List.takeWhile_cons] at hx
    split at hx
    · rename_i hc
      rcases List.mem_cons.1 hx with rfl | hx
      · exact hc
      · exact takeWhile_all q r x hx
    · simp at hx
theorem takeWhile_stop (q : UInt8 → Bool) : ∀ (r : List UInt8) (y : UInt8), (r.drop (r.takeWhile q).length).head? = some y → q y = false
  | [], y, h => by simp at h
  | c :: r, y, h => by
    rw [List.takeWhile_cons] at h
    split at h
    · exact takeWhile_stop q r y (by simpa using h)
    · rename_i hc
      obtain rfl : c = y := by simpa using h
      simpa using hc

/-- What stands for nothing begins with a blank or a remark's sign. -/
def soft (b : UInt8) : Bool := isBlank b || b == 35
theorem soft_let {b : UInt8} (h : soft b = true) : isLet b = false ∧ isDig b = false ∧ (b == 62) = false := by
  unfold soft isBlank at h
  simp only [Bool.or_eq_true, beq_iff_eq] at h
  rcases h with ((rfl | rfl) | rfl) | rfl <;> decide
theorem lexeme_none {c : UInt8} {r : List UInt8} {n : Nat} (h : lexeme c r = (Lx.none, n)) : (isBlank c = true ∧ n = 0) ∨ (c = 35 ∧ n = (r.takeWhile notEnd).length) := by
  unfold lexeme at h
  repeat' split at h
  all_goals simp only [Prod.mk.injEq, Except.ok.injEq, reduceCtorEq, false_and, true_and] at h
  · rename_i hc; exact .inl ⟨hc, h.symm⟩
  · rename_i hc; exact .inr ⟨by simpa using hc, h.symm⟩
theorem lexeme_blank {c : UInt8} (h : isBlank c = true) (r : List UInt8) : lexeme c r = (Lx.none, 0) := by unfold lexeme; rw [if_pos h]
theorem lexeme_hash (r : List UInt8) : lexeme 35 r = (Lx.none, (r.takeWhile notEnd).length) := by
  unfold lexeme
  rw [if_neg (by decide), if_neg (by decide), if_neg (by decide), if_neg (by decide), if_neg (by decide), if_neg (by decide), if_neg (by decide), if_pos (by decide)]
theorem lexeme_line (r : List UInt8) : lexeme 10 r = (Lx.tok 7 [] 0, 0) := by
  unfold lexeme
  rw [if_neg (by decide), if_neg (by decide), if_neg (by decide), if_neg (by decide), if_neg (by decide), if_neg (by decide), if_pos (by decide)]

/-- A lexeme's bytes make the same lexeme ahead of another text, where that does not go on with it. -/
theorem lexeme_ext {c : UInt8} {r : List UInt8} {n k v : Nat} {t : List UInt8} (h : lexeme c r = (Lx.tok k t v, n)) (Y : List UInt8)
    (hY : Y.head? = (r.drop n).head? ∨ ∃ b, Y.head? = some b ∧ soft b = true) : lexeme c (r.take n ++ Y) = (Lx.tok k t v, n) := by
  have stop : ∀ q : UInt8 → Bool, (∀ b, soft b = true → q b = false) → n = (r.takeWhile q).length → (r.take n ++ Y).takeWhile q = r.takeWhile q := fun q hq hn => by
    subst hn
    rw [takeWhile_take]
    refine takeWhile_append_stop q Y (fun y hy => ?_) _ (takeWhile_all q r)
    rcases hY with hY | ⟨b, hb, hs⟩
    · exact takeWhile_stop q r y (by rw [← hY]; exact hy)
    · rw [hb] at hy
      obtain rfl : b = y := by simpa using hy
      exact hq b hs
  unfold lexeme at h ⊢
  by_cases c0 : isBlank c = true
  · rw [if_pos c0] at h; simp at h
  rw [if_neg c0] at h ⊢
  by_cases c1 : isLet c = true
  · rw [if_pos c1] at h ⊢
    have hn : n = (r.takeWhile isLet).length := (Prod.mk.inj h).2.symm
    rw [stop isLet (fun b hb => (soft_let hb).1) hn]
    exact h
  rw [if_neg c1] at h ⊢
  by_cases c2 : isDig c = true
  · rw [if_pos c2] at h ⊢
    have hn : n = (r.takeWhile isDig).length := (Prod.mk.inj h).2.symm
    rw [stop isDig (fun b hb => (soft_let hb).2.1) hn]
    exact h
  rw [if_neg c2] at h ⊢
  by_cases c3 : (c == 46) = true
  · rw [if_pos c3] at h ⊢; exact h
  rw [if_neg c3] at h ⊢
  by_cases c4 : (c == 47) = true
  · rw [if_pos c4] at h ⊢; exact h
  rw [if_neg c4] at h ⊢
  by_cases c5 : (c == 45) = true
  · rw [if_pos c5] at h ⊢
    by_cases c6 : (r.head? == some 62) = true
    · rw [if_pos c6] at h
      have hn : 1 = n := (Prod.mk.inj h).2
      subst hn
      cases r with
      | nil => simp at c6
      | cons d r =>
        obtain rfl : d = 62 := by simpa using c6
        rw [if_pos (by simp)]
        exact h
    · rw [if_neg c6] at h
      have hn : 0 = n := (Prod.mk.inj h).2
      subst hn
      rw [if_neg]
      · exact h
      · rw [List.take_zero, List.nil_append]
        rcases hY with hY | ⟨b, hb, hs⟩
        · rw [hY, List.drop_zero]; exact c6
        · rw [hb]
          have := (soft_let hs).2.2
          simpa using this
  rw [if_neg c5] at h ⊢
  by_cases c7 : (c == 10) = true
  · rw [if_pos c7] at h ⊢; exact h
  rw [if_neg c7] at h ⊢
  by_cases c8 : (c == 35) = true
  · rw [if_pos c8] at h; simp at h
  · rw [if_neg c8] at h; simp at h

/-- What stands for nothing has no end of a line. -/
theorem blank_no10 : ∀ (B : List UInt8) (p : Nat), lexW p B = .ok [] → ∀ b ∈ B, notEnd b = true := by
  refine lexW_induct _ (fun p h b hb => by simp at hb) (fun p c r n hx ih h b hb => ?_) (fun p c r n k t v hx ih h => ?_) (fun p c r n e hx h => ?_)
  · rw [lexW_none hx] at h
    have hc : notEnd c = true := by
      rcases lexeme_none hx with ⟨h1, _⟩ | ⟨rfl, _⟩
      · unfold isBlank at h1
        simp only [Bool.or_eq_true, beq_iff_eq] at h1
        rcases h1 with (rfl | rfl) | rfl <;> decide
      · decide
    rcases List.mem_cons.1 hb with rfl | hb
    · exact hc
    · rw [← List.take_append_drop n r, List.mem_append] at hb
      rcases hb with hb | hb
      · rcases lexeme_none hx with ⟨_, rfl⟩ | ⟨_, rfl⟩
        · simp at hb
        · rw [takeWhile_take] at hb; exact takeWhile_all _ _ b hb
      · exact ih h b hb
  · rw [lexW_tok hx] at h
    cases hy : lexW (p + 1 + n) (r.drop n) with
    | error x => rw [hy] at h; simp [glue] at h
    | ok l' => rw [hy] at h; simp [glue] at h
  · rw [lexW_err hx] at h; cases h
theorem notEnd_10 : notEnd 10 = false := by decide
/-- What stands for nothing, and the end of its line. -/
theorem blank_line (R : List UInt8) : ∀ (B : List UInt8) (p : Nat), lexW p B = .ok [] → lexW p (B ++ 10 :: R) = glue [⟨7, p + B.length, [], 0⟩] (lexW (p + B.length + 1) R) := by
  refine lexW_induct _ (fun p _ => ?_) (fun p c r n hx ih h => ?_) (fun p c r n k t v hx ih h => ?_) (fun p c r n e hx h => ?_)
  · rw [List.nil_append, lexW_tok (lexeme_line R)]; rfl
  · have h10 := blank_no10 (c :: r) p h
    rw [lexW_none hx] at h
    rcases lexeme_none hx with ⟨h1, rfl⟩ | ⟨rfl, hn⟩
    · rw [List.cons_append, lexW_none (lexeme_blank h1 (r ++ 10 :: R)), List.drop_zero]
      have := ih h
      rw [List.drop_zero] at this
      rw [this]
      congr 2
      · simp; omega
      · simp; omega
    · have hall : (r ++ 10 :: R).takeWhile notEnd = r := takeWhile_append_stop notEnd _ (fun y hy => by
        obtain rfl : 10 = y := by simpa using hy
        exact notEnd_10) r fun x hx => h10 x (by simp [hx])
      have hh := lexeme_hash (r ++ 10 :: R)
      rw [hall] at hh
      rw [List.cons_append, lexW_none hh, List.drop_left, lexW_tok (lexeme_line R), List.drop_zero]
      congr 2
      · simp; omega
      · simp; omega
  · rw [lexW_tok hx] at h
    cases hy : lexW (p + 1 + n) (r.drop n) with
    | error x => rw [hy] at h; simp [glue] at h
    | ok l' => rw [hy] at h; simp [glue] at h
  · rw [lexW_err hx] at h; cases h
theorem blank_soft {B : List UInt8} {p : Nat} (h : lexW p B = .ok []) {b : UInt8} (hb : B.head? = some b) : soft b = true := by
  cases B with
  | nil => simp at hb
  | cons c r =>
    obtain rfl : c = b := by simpa using hb
    rcases hx : lexeme c r with ⟨x, n⟩
    rcases x with e | _ | ⟨k, t, v⟩
    · rw [lexW_err hx] at h; cases h
    · unfold soft
      rcases lexeme_none hx with ⟨h1, _⟩ | ⟨rfl, _⟩
      · rw [h1]; rfl
      · decide
    · rw [lexW_tok hx] at h
      cases hy : lexW (p + 1 + n) (r.drop n) with
      | error x => rw [hy] at h; simp [glue] at h
      | ok l' => rw [hy] at h; simp [glue] at h

/-- WHAT STANDS FOR NOTHING, AND THE END OF ITS LINE, PUT AHEAD OF A TOKEN: one Line more, and places. -/
theorem lexW_insert (B : List UInt8) (hB : lexW 0 B = .ok []) (hne : B ≠ []) : ∀ (S : List UInt8) (p : Nat) (l : List Tok), lexW p S = .ok l → ∀ (k : Nat) (t : Tok), l[k]? = some t →
    ∃ A R, S = A ++ R ∧ p ≤ t.pos ∧ A.length = t.pos - p ∧ lexW t.pos R = .ok (l.drop k) ∧ lexW p (A ++ (B ++ 10 :: R)) = glue (l.take k ++ [⟨7, t.pos + B.length, [], 0⟩]) (lexW (t.pos + B.length + 1) R) := by
  have hBp : ∀ p, lexW p B = .ok [] := fun p => by
    have := lexW_shift p B 0
    rw [Nat.zero_add, hB] at this
    exact this
  obtain ⟨b, B', hb⟩ : ∃ b B', B = b :: B' := by
    cases B with
    | nil => exact absurd rfl hne
    | cons b B' => exact ⟨b, B', rfl⟩
  have hsoft : soft b = true := blank_soft hB (by rw [hb]; rfl)
  have hBh : (B ++ (10 :: ([] : List UInt8))).head? = some b := by rw [hb]; rfl
  refine lexW_induct _ (fun p l h => ?_) (fun p c r n hx ih l h k t ht => ?_) (fun p c r n kd tx v hx ih l h k t ht => ?_) (fun p c r n e hx l h => ?_)
  · rw [lexW_nil] at h
    obtain rfl : [] = l := Except.ok.inj h
    intro k t ht; simp at ht
  · rw [lexW_none hx] at h
    obtain ⟨A, R, hAR, hp, hA, hR, hI⟩ := ih l h k t ht
    have hr : r = r.take n ++ (A ++ R) := by rw [← hAR, List.take_append_drop]
    have hn : n ≤ r.length := by have := lexeme_le c r; rw [hx] at this; exact this
    refine ⟨c :: (r.take n ++ A), R, by rw [List.cons_append, List.append_assoc, ← hr], by omega, by simp [Nat.min_eq_left hn]; omega, hR, ?_⟩
    rw [List.cons_append, List.append_assoc]
    rcases lexeme_none hx with ⟨h1, rfl⟩ | ⟨rfl, hnn⟩
    · rw [lexW_none (lexeme_blank h1 _), List.drop_zero, List.take_zero, List.nil_append]
      exact hI
    · have hta : ∀ x ∈ r.take n, notEnd x = true := by rw [hnn, takeWhile_take]; exact takeWhile_all _ _
      cases A with
      | cons a A' =>
        have ha : notEnd a = false := takeWhile_stop notEnd r a (by rw [← hnn, hAR]; rfl)
        have hw : (r.take n ++ (a :: A' ++ (B ++ 10 :: R))).takeWhile notEnd = r.take n := takeWhile_append_stop notEnd _ (fun y hy => by
          obtain rfl : a = y := by simpa using hy
          exact ha) _ hta
        have hh := lexeme_hash (r.take n ++ (a :: A' ++ (B ++ 10 :: R)))
        rw [hw, List.length_take, Nat.min_eq_left hn] at hh
        rw [lexW_none hh, List.drop_append_of_le_length (by simp [Nat.min_eq_left hn]), List.drop_of_length_le (by simp; omega), List.nil_append]
        exact hI
      | nil =>
        have hpos : t.pos = p + 1 + n := by simp at hA; omega
        have hR0 : r.drop n = R := hAR
        have hw : (r.take n ++ ([] ++ (B ++ 10 :: R))).takeWhile notEnd = r.take n ++ B := by
          rw [List.nil_append, ← List.append_assoc]
          refine takeWhile_append_stop notEnd _ (fun y hy => ?_) _ (fun x hx => ?_)
          · obtain rfl : 10 = y := by simpa using hy
            exact notEnd_10
          · rcases List.mem_append.1 hx with hx | hx
            · exact hta x hx
            · exact blank_no10 B 0 hB x hx
        have hh := lexeme_hash (r.take n ++ ([] ++ (B ++ 10 :: R)))
        rw [hw, List.length_append, List.length_take, Nat.min_eq_left hn] at hh
        rw [lexW_none hh, List.nil_append, ← List.append_assoc, List.drop_append_of_le_length (by simp [Nat.min_eq_left hn]), List.drop_of_length_le (by simp [Nat.min_eq_left hn]), List.nil_append, lexW_tok (lexeme_line R), List.drop_zero]
        have hk0 : l.take k = [] := by
          rw [← hR0, hpos, h] at hR
          have e := congrArg List.length (Except.ok.inj hR)
          rw [List.length_drop] at e
          have hkl : k < l.length := (List.getElem?_eq_some_iff.1 ht).1
          have : k = 0 := by omega
          rw [this]; rfl
        rw [hk0, List.nil_append, hpos]
        congr 2
        · simp; omega
        · omega
  · rw [lexW_tok hx] at h
    have hn : n ≤ r.length := by have := lexeme_le c r; rw [hx] at this; exact this
    cases hy : lexW (p + 1 + n) (r.drop n) with
    | error x => rw [hy] at h; simp [glue] at h
    | ok l' =>
      rw [hy] at h
      obtain rfl : ⟨kd, p, tx, v⟩ :: l' = l := by simpa [glue] using h
      cases k with
      | zero =>
        obtain rfl : ⟨kd, p, tx, v⟩ = t := by simpa using ht
        refine ⟨[], c :: r, rfl, Nat.le_refl _, by simp, ?_, ?_⟩
        · rw [List.drop_zero, lexW_tok hx, hy]; rfl
        · rw [List.nil_append, blank_line (c :: r) B p (hBp p)]; rfl
      | succ k =>
        obtain ⟨A, R, hAR, hp, hA, hR, hI⟩ := ih l' hy k t (by simpa using ht)
        have hr : r = r.take n ++ (A ++ R) := by rw [← hAR, List.take_append_drop]
        refine ⟨c :: (r.take n ++ A), R, by rw [List.cons_append, List.append_assoc, ← hr], by omega, by simp [Nat.min_eq_left hn]; omega, by simpa using hR, ?_⟩
        rw [List.cons_append, List.append_assoc]
        have hext : lexeme c (r.take n ++ (A ++ (B ++ 10 :: R))) = (Lx.tok kd tx v, n) := by
          refine lexeme_ext hx _ ?_
          cases A with
          | cons a A' => left; rw [hAR]; rfl
          | nil => right; exact ⟨b, by rw [hb]; rfl, hsoft⟩
        rw [lexW_tok hext, List.drop_append_of_le_length (by simp [Nat.min_eq_left hn]), List.drop_of_length_le (by simp; omega), List.nil_append, hI, glue_glue]
        simp
  · rw [lexW_err hx] at h; cases h

theorem lex_put (B : List UInt8) (hB : lexW 0 B = .ok []) (hne : B ≠ []) (S : List UInt8) (l : List Tok) (h : lexW 0 S = .ok l) (k : Nat) (t : Tok) (ht : l[k]? = some t) :
    lexW 0 (S.take t.pos ++ (B ++ 10 :: S.drop t.pos)) = .ok (l.take k ++ ⟨7, t.pos + B.length, [], 0⟩ :: (l.drop k).map (sh (B.length + 1))) := by
  obtain ⟨A, R, hS, _, hA, hR, hI⟩ := lexW_insert B hB hne S 0 l h k t ht
  rw [Nat.sub_zero] at hA
  have e1 : S.take t.pos = A := by rw [hS, ← hA, List.take_left]
  have e2 : S.drop t.pos = R := by rw [hS, ← hA, List.drop_left]
  rw [e1, e2, hI, show t.pos + B.length + 1 = t.pos + (B.length + 1) by omega, lexW_shift, hR]
  simp [shiftE, glue]
end Go.Proofs.YtgcfdcgmddjhbaaDoor
