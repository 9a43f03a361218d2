import Derived.Test.YtjmpakngbdemgaaJ2
import Derived.Test.YtjmpakngbdemgaaProg
import Derived.Test.YtjmpakngbdemgaaJ1
import Derived.Lib.Bytealg
import Derived.Lib.UnsafeStr
import Derived.Lib.BufferWrite
import Derived.Laws.MakeOwn
import Derived.Test.YtjmpakngbdemgaaJ3
import Derived.OwnWalk
namespace Go.Proofs.Ytjmpakngbdemgaa

/-! Dealing: its mathematics. Those who are there (th), what each has (ld), what each weighs (wt). -/
/-- May the number n be given the size? -/
def mayG (th : Nat → Bool) (ld : Nat → Int) (room size : Int) (but n : Nat) : Bool := th n && !(n == but) && !decide (room - ld n < size)
/-- The cheapest of the numbers 1 to k, and its cost. -/
def giveGo (th : Nat → Bool) (ld : Nat → Int) (wt : Nat → Nat) (room size : Int) (but : Nat) : Nat → Option (Nat × Nat)
  | 0 => none
  | k + 1 => if mayG th ld room size but (k + 1) then
      (match giveGo th ld wt room size but k with
      | none => some (k + 1, costT (ld (k + 1) + size) (wt (k + 1)))
      | some (m, y) => if placeT (costT (ld (k + 1) + size) (wt (k + 1))) < placeT y then some (k + 1, costT (ld (k + 1) + size) (wt (k + 1))) else some (m, y))
    else giveGo th ld wt room size but k
def gI (s : Option (Nat × Nat)) : Nat := match s with | none => 0 | some (n, _) => n
def gX (s : Option (Nat × Nat)) : Nat := match s with | none => 0 | some (_, x) => x
def giveN (th : Nat → Bool) (ld : Nat → Int) (wt : Nat → Nat) (room size : Int) (but : Nat) : Nat := gI (giveGo th ld wt room size but 6)
def ldUp (ld : Nat → Int) (n : Nat) (size : Int) (m : Nat) : Int := if m = n ∧ n ≠ 0 then ld m + size else ld m
theorem giveGo_in {th : Nat → Bool} {ld : Nat → Int} {wt : Nat → Nat} {room size : Int} {but : Nat} : ∀ {k n x : Nat}, giveGo th ld wt room size but k = some (n, x) → 1 ≤ n ∧ n ≤ k ∧ mayG th ld room size but n = true ∧ x = costT (ld n + size) (wt n)
  | 0, n, x, h => by cases h
  | k + 1, n, x, h => by
    unfold giveGo at h
    by_cases hm : mayG th ld room size but (k + 1) = true
    · rw [if_pos hm] at h
      cases hg : giveGo th ld wt room size but k with
      | none =>
        rw [hg] at h
        simp only [Option.some.injEq, Prod.mk.injEq] at h
        obtain ⟨rfl, rfl⟩ := h
        exact ⟨by omega, Nat.le_refl _, hm, rfl⟩
      | some p =>
        obtain ⟨m, y⟩ := p
        rw [hg] at h
        dsimp only at h
        split at h
        · simp only [Option.some.injEq, Prod.mk.injEq] at h
          obtain ⟨rfl, rfl⟩ := h
          exact ⟨by omega, Nat.le_refl _, hm, rfl⟩
        · cases h
          obtain ⟨h1, h2, h3, h4⟩ := giveGo_in hg
          exact ⟨h1, by omega, h3, h4⟩
    · rw [if_neg hm] at h
      obtain ⟨h1, h2, h3, h4⟩ := giveGo_in h
      exact ⟨h1, by omega, h3, h4⟩
theorem giveGo_none {th : Nat → Bool} {ld : Nat → Int} {wt : Nat → Nat} {room size : Int} {but : Nat} : ∀ {k : Nat}, (∀ n, 1 ≤ n → n ≤ k → mayG th ld room size but n = false) → giveGo th ld wt room size but k = none
  | 0, _ => rfl
  | k + 1, h => by
    unfold giveGo
    rw [h (k + 1) (by omega) (Nat.le_refl _)]
    simp only [Bool.false_eq_true, if_false]
    exact giveGo_none fun n h1 h2 => h n h1 (by omega)
theorem giveGo_some {th : Nat → Bool} {ld : Nat → Int} {wt : Nat → Nat} {room size : Int} {but : Nat} : ∀ {k n : Nat}, 1 ≤ n → n ≤ k → mayG th ld room size but n = true → ∃ p, giveGo th ld wt room size but k = some p
  | 0, n, h1, h2, _ => by omega
  | k + 1, n, h1, h2, hm => by
    unfold giveGo
    by_cases hk : mayG th ld room size but (k + 1) = true
    · rw [if_pos hk]
      cases giveGo th ld wt room size but k with
      | none => exact ⟨_, rfl⟩
      | some p =>
        obtain ⟨m, y⟩ := p
        dsimp only
        split
        · exact ⟨_, rfl⟩
        · exact ⟨_, rfl⟩
    · rw [if_neg hk]
      by_cases he : n = k + 1
      · subst he; exact absurd hm hk
      · exact giveGo_some h1 (by omega) hm
theorem giveN_in {th : Nat → Bool} {ld : Nat → Int} {wt : Nat → Nat} {room size : Int} {but n : Nat} (h : giveN th ld wt room size but = n) (hn : n ≠ 0) : 1 ≤ n ∧ n ≤ 6 ∧ th n = true ∧ n ≠ but ∧ ld n + size ≤ room := by
  unfold giveN at h
  cases hg : giveGo th ld wt room size but 6 with
  | none => rw [hg] at h; exact absurd h.symm hn
  | some p =>
    obtain ⟨m, y⟩ := p
    rw [hg] at h
    obtain rfl : m = n := h
    obtain ⟨h1, h2, h3, _⟩ := giveGo_in hg
    unfold mayG at h3
    simp only [Bool.and_eq_true, Bool.not_eq_true', decide_eq_false_iff_not, beq_eq_false_iff_ne] at h3
    exact ⟨h1, h2, h3.1.1, h3.1.2, by omega⟩
theorem ldUp_zero (ld : Nat → Int) (n : Nat) : ldUp ld n 0 = ld := by
  funext m
  unfold ldUp
  split <;> simp
/-- What a leaf is given, and what all have then. -/
def oneOf (th : Nat → Bool) (wt : Nat → Nat) (room : Int) (ld : Nat → Int) (size : Int) : Nat := giveN th ld wt room size 0
def twoOf (th : Nat → Bool) (wt : Nat → Nat) (room : Int) (ld : Nat → Int) (size : Int) : Nat := giveN th (ldUp ld (oneOf th wt room ld size) size) wt room size (oneOf th wt room ld size)
def nextL (th : Nat → Bool) (wt : Nat → Nat) (room : Int) (ld : Nat → Int) (size : Int) : Nat → Int := ldUp (ldUp ld (oneOf th wt room ld size) size) (twoOf th wt room ld size) size
def badG (th : Nat → Bool) (wt : Nat → Nat) (room : Int) (cnt : Nat) (ld : Nat → Int) (size : Int) : Bool := oneOf th wt room ld size == 0 || (twoOf th wt room ld size == 0 && decide (1 < cnt))
def dealF (th : Nat → Bool) (wt : Nat → Nat) (room : Int) (cnt : Nat) (s : Nat → Int) : List Nat → (Nat → Int) → (Nat → Nat × Nat) → Option ((Nat → Int) × (Nat → Nat × Nat))
  | [], ld, out => some (ld, out)
  | i :: o, ld, out => if badG th wt room cnt ld (s i) then none else dealF th wt room cnt s o (nextL th wt room ld (s i)) (fun j => if j = i then (oneOf th wt room ld (s i), twoOf th wt room ld (s i)) else out j)
theorem deal_app {th : Nat → Bool} {wt : Nat → Nat} {room : Int} {cnt : Nat} {s : Nat → Int} : ∀ (A B : List Nat) (ld : Nat → Int) (out : Nat → Nat × Nat), dealF th wt room cnt s (A ++ B) ld out = (dealF th wt room cnt s A ld out).bind fun p => dealF th wt room cnt s B p.1 p.2
  | [], B, ld, out => rfl
  | i :: A, B, ld, out => by
    rw [List.cons_append, dealF, dealF]
    split
    · rfl
    · exact deal_app A B _ _
theorem deal_zero {th : Nat → Bool} {wt : Nat → Nat} {room : Int} {cnt : Nat} {s : Nat → Int} : ∀ (Zs : List Nat) (ld : Nat → Int) (out : Nat → Nat × Nat), (∀ i ∈ Zs, s i = 0) → dealF th wt room cnt s Zs ld out = if Zs = [] then some (ld, out) else if badG th wt room cnt ld 0 then none else some (ld, fun j => if j ∈ Zs then (oneOf th wt room ld 0, twoOf th wt room ld 0) else out j)
  | [], ld, out, _ => rfl
  | i :: Zs, ld, out, h => by
    have hi : s i = 0 := h i (by simp)
    have hn : nextL th wt room ld 0 = ld := by unfold nextL; rw [ldUp_zero, ldUp_zero]
    rw [dealF, hi, hn, deal_zero Zs ld _ (fun j hj => h j (List.mem_cons_of_mem _ hj)), if_neg (show ¬ (i :: Zs) = [] by simp)]
    split
    · rfl
    · by_cases hz : Zs = []
      · subst hz
        rw [if_pos rfl]
        simp only [List.mem_cons, List.not_mem_nil, or_false]
      · rw [if_neg hz]
        congr 2
        funext j
        by_cases h1 : j ∈ Zs
        · simp [h1]
        · by_cases h2 : j = i
          · simp [h2]
          · simp [h1, h2]
theorem pos_split {K : Nat → Int} {q : Nat → Bool} : ∀ {o : List Nat}, o.Pairwise (ahead K) → (∀ i j, q i = false → q j = true → K j < K i) → o = o.filter q ++ o.filter (fun i => !q i)
  | [], _, _ => rfl
  | x :: o, h, hq => by
    rw [List.pairwise_cons] at h
    cases hx : q x with
    | true =>
      rw [List.filter_cons_of_pos hx, List.filter_cons_of_neg (by rw [hx]; simp), List.cons_append, ← pos_split h.2 hq]
    | false =>
      have hall : ∀ y ∈ o, q y = false := fun y hy => by
        cases hy2 : q y with
        | false => rfl
        | true =>
          have h1 := hq x y hx hy2
          have h2 := h.1 y hy
          unfold ahead at h2
          omega
      rw [List.filter_cons_of_neg (by rw [hx]; simp), List.filter_cons_of_pos (by rw [hx]; rfl)]
      have e1 : o.filter q = [] := List.filter_eq_nil_iff.2 fun y hy => by rw [hall y hy]; simp
      have e2 : o.filter (fun i => !q i) = o := List.filter_eq_self.2 fun y hy => by rw [hall y hy]; rfl
      rw [e1, e2, List.nil_append]
/-- In whatever of the two orders: the same. -/
theorem deal_same {th : Nat → Bool} {wt : Nat → Nat} {room : Int} {cnt n : Nat} {z : Nat → Int} {o1 o2 : List Nat} (h1 : IsOrd (fun i => -z i) n o1) (h2 : IsOrd (fun i => -max (z i) 0) n o2) (ld : Nat → Int) (out : Nat → Nat × Nat) :
    (dealF th wt room cnt (fun i => max (z i) 0) o1 ld out) = (dealF th wt room cnt (fun i => max (z i) 0) o2 ld out) := by
  obtain ⟨q, hq⟩ : ∃ q : Nat → Bool, q = fun i => decide (0 < z i) := ⟨_, rfl⟩
  have s1 := pos_split (q := q) h1.2 (fun i j hi hj => by subst hq; simp at hi hj; omega)
  have s2 := pos_split (q := q) h2.2 (fun i j hi hj => by subst hq; simp at hi hj; omega)
  have hP : o1.filter q = o2.filter q := by
    refine ord_ext (K := fun i => -z i) (h1.2.sublist List.filter_sublist) ?_ (fun x => ?_)
    · have := h2.2.sublist (List.filter_sublist (p := q))
      refine this.imp_of_mem fun {a b} ha hb hab => ?_
      have ha' := (List.mem_filter.1 ha).2
      have hb' := (List.mem_filter.1 hb).2
      subst hq
      simp only [decide_eq_true_eq] at ha' hb'
      unfold ahead at hab ⊢
      dsimp only at hab ⊢
      omega
    · rw [List.mem_filter, List.mem_filter, h1.1, h2.1]
  have hZ : ∀ x, x ∈ o1.filter (fun i => !q i) ↔ x ∈ o2.filter (fun i => !q i) := fun x => by rw [List.mem_filter, List.mem_filter, h1.1, h2.1]
  have hz : ∀ o : List Nat, ∀ i ∈ o.filter (fun i => !q i), max (z i) 0 = 0 := fun o i hi => by
    have := (List.mem_filter.1 hi).2
    subst hq
    simp at this
    omega
  rw [s1, s2, deal_app, deal_app, hP]
  congr 1
  funext p
  rw [deal_zero _ _ _ (hz o1), deal_zero _ _ _ (hz o2)]
  have he : (o1.filter (fun i => !q i) = []) ↔ (o2.filter (fun i => !q i) = []) := by
    rw [List.eq_nil_iff_forall_not_mem, List.eq_nil_iff_forall_not_mem]
    exact ⟨fun h x hx => h x ((hZ x).2 hx), fun h x hx => h x ((hZ x).1 hx)⟩
  by_cases hn : o1.filter (fun i => !q i) = []
  · rw [if_pos hn, if_pos (he.1 hn)]
  · rw [if_neg hn, if_neg (fun h => hn (he.2 h))]
    split
    · rfl
    · congr 2
      funext j
      simp only [hZ j]
end Go.Proofs.Ytjmpakngbdemgaa
namespace Go.Proofs.Ytjmpakngbdemgaa
open Go
set_option maxRecDepth 20000

/-- A token. -/
structure Tok where
  kind : Nat
  pos : Nat
  text : List UInt8
  num : Nat

def isLet (c : UInt8) : Bool := decide (97 ≤ c.toNat) && decide (c.toNat ≤ 122)
def isDig (c : UInt8) : Bool := decide (48 ≤ c.toNat) && decide (c.toNat ≤ 57)
def isBlank (c : UInt8) : Bool := c == 9 || c == 13 || c == 32
def notEnd (c : UInt8) : Bool := c != 10
/-- Digits as a number. -/
def val (D : List UInt8) : Nat := D.foldl (fun n c => n * 10 + (c.toNat - 48)) 0
/-- Digits as a number that may be. -/
def numOf (D : List UInt8) : Option Nat := if decide (4294967295 < val D) || (decide (1 < D.length) && D.head? == some 48) then none else some (val D)

/-- What begins at a place: nothing, a token, or something wrong. -/
abbrev Lx := Except Nat (Option (Nat × List UInt8 × Nat))
abbrev Lx.none : Lx := Except.ok Option.none
abbrev Lx.tok (k : Nat) (t : List UInt8) (v : Nat) : Lx := Except.ok (some (k, t, v))
abbrev Lx.err (e : Nat) : Lx := Except.error e

/-- What begins with a byte, and how many more bytes it has. -/
def lexeme (c : UInt8) (r : List UInt8) : Lx × Nat :=
  if isBlank c then (Lx.none, 0)
  else if isLet c then (Lx.tok 1 (c :: r.takeWhile isLet) 0, (r.takeWhile isLet).length)
  else if isDig c then (match numOf (c :: r.takeWhile isDig) with | some n => Lx.tok 2 [] n | Option.none => Lx.err 7, (r.takeWhile isDig).length)
  else if c == 46 then (Lx.tok 3 [] 0, 0)
  else if c == 47 then (Lx.tok 4 [] 0, 0)
  else if c == 45 then (if r.head? == some 62 then (Lx.tok 6 [] 0, 1) else (Lx.tok 5 [] 0, 0))
  else if c == 10 then (Lx.tok 7 [] 0, 0)
  else if c == 35 then (Lx.none, (r.takeWhile notEnd).length)
  else (Lx.err 6, 0)

/-- Tokens ahead of what comes to be. -/
def glue (P : List Tok) : Except (Nat × Nat) (List Tok) → Except (Nat × Nat) (List Tok)
  | .ok l => .ok (P ++ l)
  | .error x => .error x
theorem glue_glue (P Q : List Tok) (x : Except (Nat × Nat) (List Tok)) : glue P (glue Q x) = glue (P ++ Q) x := by
  cases x <;> simp [glue]
theorem glue_nil (x : Except (Nat × Nat) (List Tok)) : glue [] x = x := by cases x <;> rfl

/-- The tokens of a text that begins at a place, so many steps at most. -/
def lexF : Nat → Nat → List UInt8 → Except (Nat × Nat) (List Tok)
  | 0, _, _ => .ok []
  | _ + 1, _, [] => .ok []
  | f + 1, p, c :: r => match lexeme c r with
    | (.ok Option.none, n) => lexF f (p + 1 + n) (r.drop n)
    | (.ok (some (k, t, v)), n) => glue [⟨k, p, t, v⟩] (lexF f (p + 1 + n) (r.drop n))
    | (.error e, _) => .error (e, p)
/-- The tokens of a text that begins at a place. -/
def lexW (p : Nat) (S : List UInt8) : Except (Nat × Nat) (List Tok) := lexF S.length p S
theorem lexF_more : ∀ (f g p : Nat) (S : List UInt8), S.length ≤ f → S.length ≤ g → lexF f p S = lexF g p S
  | 0, 0, _, _, _, _ => rfl
  | 0, g + 1, p, S, hf, _ => by
    obtain rfl : S = [] := List.eq_nil_of_length_eq_zero (by omega)
    rfl
  | f + 1, 0, p, S, _, hg => by
    obtain rfl : S = [] := List.eq_nil_of_length_eq_zero (by omega)
    rfl
  | f + 1, g + 1, p, [], _, _ => rfl
  | f + 1, g + 1, p, c :: r, hf, hg => by
    have hl : ∀ n, (r.drop n).length ≤ f ∧ (r.drop n).length ≤ g := fun n => by simp at hf hg ⊢; omega
    have ih : ∀ q n, lexF f q (r.drop n) = lexF g q (r.drop n) := fun q n => lexF_more f g q (r.drop n) (hl n).1 (hl n).2
    simp only [lexF, ih]

theorem lexW_nil (p : Nat) : lexW p [] = .ok [] := rfl
theorem lexW_none {p : Nat} {c : UInt8} {r : List UInt8} {n : Nat} (h : lexeme c r = (Lx.none, n)) : lexW p (c :: r) = lexW (p + 1 + n) (r.drop n) := by
  unfold lexW
  rw [List.length_cons, lexF, h]
  exact lexF_more _ _ _ _ (by simp) (Nat.le_refl _)
theorem lexW_tok {p : Nat} {c : UInt8} {r : List UInt8} {n k v : Nat} {t : List UInt8} (h : lexeme c r = (Lx.tok k t v, n)) : lexW p (c :: r) = glue [⟨k, p, t, v⟩] (lexW (p + 1 + n) (r.drop n)) := by
  unfold lexW
  rw [List.length_cons, lexF, h]
  exact congrArg (glue _) (lexF_more _ _ _ _ (by simp) (Nat.le_refl _))
theorem lexW_err {p : Nat} {c : UInt8} {r : List UInt8} {n e : Nat} (h : lexeme c r = (Lx.err e, n)) : lexW p (c :: r) = .error (e, p) := by
  unfold lexW
  rw [List.length_cons, lexF, h]

/-- An induction along the text. -/
theorem lexW_induct (Q : Nat → List UInt8 → Prop) (h0 : ∀ p, Q p []) (h1 : ∀ p c r n, lexeme c r = (Lx.none, n) → Q (p + 1 + n) (r.drop n) → Q p (c :: r))
    (h2 : ∀ p c r n k t v, lexeme c r = (Lx.tok k t v, n) → Q (p + 1 + n) (r.drop n) → Q p (c :: r)) (h3 : ∀ p c r n e, lexeme c r = (Lx.err e, n) → Q p (c :: r)) : ∀ S p, Q p S := by
  have key : ∀ d (S : List UInt8) p, S.length ≤ d → Q p S := by
    intro d
    induction d with
    | zero => intro S p hS; obtain rfl : S = [] := List.eq_nil_of_length_eq_zero (by omega); exact h0 p
    | succ d ih =>
      intro S p hS
      cases S with
      | nil => exact h0 p
      | cons c r =>
        have hl : ∀ n, (r.drop n).length ≤ d := fun n => by simp at hS ⊢; omega
        rcases hx : lexeme c r with ⟨x, n⟩
        rcases x with e | _ | ⟨k, t, v⟩
        · exact h3 p c r n e hx
        · exact h1 p c r n hx (ih _ _ (hl n))
        · exact h2 p c r n k t v hx (ih _ _ (hl n))
  exact fun S p => key _ S p (Nat.le_refl _)

theorem takeWhile_le (q : UInt8 → Bool) (r : List UInt8) : (r.takeWhile q).length ≤ r.length := (List.takeWhile_prefix q).length_le
theorem takeWhile_take (q : UInt8 → Bool) : ∀ r : List UInt8, r.take (r.takeWhile q).length = r.takeWhile q
  | [] => rfl
  | c :: r => by
    rw [List.takeWhile_cons]
    cases h : q c
    · simp
    · simp [takeWhile_take q r]
/-- No lexeme has more bytes than there are. -/
theorem lexeme_le (c : UInt8) (r : List UInt8) : (lexeme c r).2 ≤ r.length := by
  unfold lexeme
  have h1 := takeWhile_le isLet r
  have h2 := takeWhile_le isDig r
  have h3 := takeWhile_le notEnd r
  repeat' split
  all_goals first | exact Nat.zero_le _ | exact h1 | exact h2 | exact h3 | skip
  rename_i h
  cases r with
  | nil => simp at h
  | cons d r => simp
theorem lexeme_word {c : UInt8} {r : List UInt8} {n k v : Nat} {t : List UInt8} (h : lexeme c r = (Lx.tok k t v, n)) (hk : k = 1) : t = c :: r.take n := by
  unfold lexeme at h
  repeat' split at h
  all_goals simp only [Prod.mk.injEq, Except.ok.injEq, Option.some.injEq, reduceCtorEq, false_and] at h
  · obtain ⟨⟨_, rfl, _⟩, rfl⟩ := h
    rw [takeWhile_take]
  all_goals try omega
  all_goals
    split at h
    · simp only [Except.ok.injEq, Option.some.injEq, Prod.mk.injEq] at h; omega
    · simp at h

/-- Tokens lie within the text, and rise; a word stands where it is told to. -/
theorem lexW_places : ∀ (S : List UInt8) (p : Nat) (l : List Tok), lexW p S = .ok l →
    (∀ (i : Nat) (t : Tok), l[i]? = some t → p ≤ t.pos ∧ t.pos < p + S.length ∧ (t.kind = 1 → t.pos + t.text.length ≤ p + S.length ∧ (S.drop (t.pos - p)).take t.text.length = t.text)) ∧
    (∀ (i : Nat) (a b : Tok), l[i]? = some a → l[i + 1]? = some b → a.pos < b.pos) ∧ l.length ≤ S.length := by
  refine lexW_induct _ (fun p l h => ?_) (fun p c r n hx ih l h => ?_) (fun p c r n k t v hx ih l h => ?_) (fun p c r n e hx l h => ?_)
  · rw [lexW_nil] at h
    obtain rfl : [] = l := Except.ok.inj h
    refine ⟨fun i t ht => by simp at ht, fun i a b ha => by simp at ha, Nat.zero_le _⟩
  · rw [lexW_none hx] at h
    have hn : n ≤ r.length := by have := lexeme_le c r; rw [hx] at this; exact this
    have hl : (r.drop n).length = r.length - n := List.length_drop
    obtain ⟨h1, h2, h3⟩ := ih l h
    refine ⟨fun i t ht => ?_, h2, by simp at h3 ⊢; omega⟩
    obtain ⟨g1, g2, g3⟩ := h1 i t ht
    refine ⟨by omega, by simp; omega, fun hk => ?_⟩
    obtain ⟨g4, g5⟩ := g3 hk
    refine ⟨by simp; omega, ?_⟩
    rw [show t.pos - p = (n + (t.pos - (p + 1 + n))) + 1 by omega, List.drop_succ_cons, ← List.drop_drop]
    exact g5
  · rw [lexW_tok hx] at h
    have hn : n ≤ r.length := by have := lexeme_le c r; rw [hx] at this; exact this
    have hl : (r.drop n).length = r.length - n := List.length_drop
    cases hy : lexW (p + 1 + n) (r.drop n) with
    | error x => rw [hy] at h; simp [glue] at h
    | ok l' =>
      rw [hy] at h
      obtain rfl : ⟨k, p, t, v⟩ :: l' = l := by simpa [glue] using h
      obtain ⟨h1, h2, h3⟩ := ih l' hy
      refine ⟨fun i u hu => ?_, fun i a b ha hb => ?_, by simp at h3 ⊢; omega⟩
      · cases i with
        | zero =>
          obtain rfl : ⟨k, p, t, v⟩ = u := by simpa using hu
          refine ⟨Nat.le_refl _, by simp, fun hk => ?_⟩
          have ht := lexeme_word hx hk
          subst ht
          simp only [List.length_cons, List.length_take, Nat.sub_self, List.drop_zero]
          refine ⟨by omega, ?_⟩
          rw [Nat.min_eq_left hn, List.take_succ_cons]
        | succ i =>
          obtain ⟨g1, g2, g3⟩ := h1 i u (by simpa using hu)
          refine ⟨by omega, by simp; omega, fun hk => ?_⟩
          obtain ⟨g4, g5⟩ := g3 hk
          refine ⟨by simp; omega, ?_⟩
          rw [show u.pos - p = (n + (u.pos - (p + 1 + n))) + 1 by omega, List.drop_succ_cons, ← List.drop_drop]
          exact g5
      · cases i with
        | zero =>
          obtain rfl : ⟨k, p, t, v⟩ = a := by simpa using ha
          have := (h1 0 b (by simpa using hb)).1
          show p < b.pos
          omega
        | succ i => exact h2 i a b (by simpa using ha) (by simpa using hb)
  · rw [lexW_err hx] at h; cases h
/-- What is wrong lies within the text. -/
theorem lexW_error : ∀ (S : List UInt8) (p e q : Nat), lexW p S = .error (e, q) → p ≤ q ∧ q < p + S.length ∧ (e = 6 ∨ e = 7) := by
  refine lexW_induct _ (fun p e q h => ?_) (fun p c r n hx ih e q h => ?_) (fun p c r n k t v hx ih e q h => ?_) (fun p c r n e' hx e q h => ?_)
  · rw [lexW_nil] at h; cases h
  · rw [lexW_none hx] at h
    have hn : n ≤ r.length := by have := lexeme_le c r; rw [hx] at this; exact this
    have := ih e q h
    simp at this ⊢
    omega
  · rw [lexW_tok hx] at h
    have hn : n ≤ r.length := by have := lexeme_le c r; rw [hx] at this; exact this
    cases hy : lexW (p + 1 + n) (r.drop n) with
    | error x =>
      rw [hy] at h
      obtain rfl : x = (e, q) := by simpa [glue] using h
      have := ih e q hy
      simp at this ⊢
      omega
    | ok l' => rw [hy] at h; simp [glue] at h
  · rw [lexW_err hx] at h
    obtain ⟨rfl, rfl⟩ := Prod.mk.inj (Except.error.inj h)
    refine ⟨Nat.le_refl _, by simp, ?_⟩
    unfold lexeme at hx
    repeat' split at hx
    all_goals simp only [Prod.mk.injEq, Except.error.injEq, reduceCtorEq, false_and] at hx
    all_goals omega

/-- Tokens so many places on. -/
def sh (d : Nat) (t : Tok) : Tok := ⟨t.kind, t.pos + d, t.text, t.num⟩
def shiftE (d : Nat) : Except (Nat × Nat) (List Tok) → Except (Nat × Nat) (List Tok)
  | .ok l => .ok (l.map (sh d))
  | .error x => .error (x.1, x.2 + d)
theorem lexW_shift (d : Nat) : ∀ (S : List UInt8) (p : Nat), lexW (p + d) S = shiftE d (lexW p S) := by
  refine lexW_induct _ (fun p => ?_) (fun p c r n hx ih => ?_) (fun p c r n k t v hx ih => ?_) (fun p c r n e hx => ?_)
  · rw [lexW_nil, lexW_nil]; rfl
  · rw [lexW_none hx, lexW_none hx, ← ih]; congr 1; omega
  · rw [lexW_tok hx, lexW_tok hx, show p + d + 1 + n = p + 1 + n + d by omega, ih]
    cases lexW (p + 1 + n) (r.drop n) <;> rfl
  · rw [lexW_err hx, lexW_err hx]; rfl

theorem takeWhile_append_stop (q : UInt8 → Bool) (Y : List UInt8) (hY : ∀ y, Y.head? = some y → q y = false) : ∀ X : List UInt8, (∀ x ∈ X, q x = true) → (X ++ Y).takeWhile q = X
  | [], _ => by
    cases Y with
    | nil => rfl
    | cons y Y => simp [hY y rfl]
  | x :: X, h => by
    have hx := h x (by simp)
    rw [List.cons_append, List.takeWhile_cons, if_pos hx, takeWhile_append_stop q Y hY X fun z hz => h z (by simp [hz])]
theorem takeWhile_all (q : UInt8 → Bool) : ∀ (r : List UInt8), ∀ x ∈ r.takeWhile q, q x = true
  | [], x, hx => by simp at hx
  | c :: r, x, hx => by
    rw [List.takeWhile_cons] at hx
    split at hx
    · rename_i hc
      rcases List.mem_cons.1 hx with rfl | hx
      · exact hc
      · exact takeWhile_all q r x hx
    · simp at hx
theorem takeWhile_stop (q : UInt8 → Bool) : ∀ (r : List UInt8) (y : UInt8), (r.drop (r.takeWhile q).length).head? = some y → q y = false
  | [], y, h => by simp at h
  | c :: r, y, h => by
    rw [List.takeWhile_cons] at h
    split at h
    · exact takeWhile_stop q r y (by simpa using h)
    · rename_i hc
      obtain rfl : c = y := by simpa using h
      simpa using hc

/-- What stands for nothing begins with a blank or a remark's sign. -/
def soft (b : UInt8) : Bool := isBlank b || b == 35
theorem soft_let {b : UInt8} (h : soft b = true) : isLet b = false ∧ isDig b = false ∧ (b == 62) = false := by
  unfold soft isBlank at h
  simp only [Bool.or_eq_true, beq_iff_eq] at h
  rcases h with ((rfl | rfl) | rfl) | rfl <;> decide
theorem lexeme_none {c : UInt8} {r : List UInt8} {n : Nat} (h : lexeme c r = (Lx.none, n)) : (isBlank c = true ∧ n = 0) ∨ (c = 35 ∧ n = (r.takeWhile notEnd).length) := by
  unfold lexeme at h
  repeat' split at h
  all_goals simp only [Prod.mk.injEq, Except.ok.injEq, reduceCtorEq, false_and, true_and] at h
  · rename_i hc; exact .inl ⟨hc, h.symm⟩
  · rename_i hc; exact .inr ⟨by simpa using hc, h.symm⟩
theorem lexeme_blank {c : UInt8} (h : isBlank c = true) (r : List UInt8) : lexeme c r = (Lx.none, 0) := by unfold lexeme; rw [if_pos h]
theorem lexeme_hash (r : List UInt8) : lexeme 35 r = (Lx.none, (r.takeWhile notEnd).length) := by
  unfold lexeme
  rw [if_neg (by decide), if_neg (by decide), if_neg (by decide), if_neg (by decide), if_neg (by decide), if_neg (by decide), if_neg (by decide), if_pos (by decide)]
theorem lexeme_line (r : List UInt8) : lexeme 10 r = (Lx.tok 7 [] 0, 0) := by
  unfold lexeme
  rw [if_neg (by decide), if_neg (by decide), if_neg (by decide), if_neg (by decide), if_neg (by decide), if_neg (by decide), if_pos (by decide)]

/-- A lexeme's bytes make the same lexeme ahead of another text, where that does not go on with it. -/
theorem lexeme_ext {c : UInt8} {r : List UInt8} {n k v : Nat} {t : List UInt8} (h : lexeme c r = (Lx.tok k t v, n)) (Y : List UInt8)
    (hY : Y.head? = (r.drop n).head? ∨ ∃ b, Y.head? = some b ∧ soft b = true) : lexeme c (r.take n ++ Y) = (Lx.tok k t v, n) := by
  have stop : ∀ q : UInt8 → Bool, (∀ b, soft b = true → q b = false) → n = (r.takeWhile q).length → (r.take n ++ Y).takeWhile q = r.takeWhile q := fun q hq hn => by
    subst hn
    rw [takeWhile_take]
    refine takeWhile_append_stop q Y (fun y hy => ?_) _ (takeWhile_all q r)
    rcases hY with hY | ⟨b, hb, hs⟩
    · exact takeWhile_stop q r y (by rw [← hY]; exact hy)
    · rw [hb] at hy
      obtain rfl : b = y := by simpa using hy
      exact hq b hs
  unfold lexeme at h ⊢
  by_cases c0 : isBlank c = true
  · rw [if_pos c0] at h; simp at h
  rw [if_neg c0] at h ⊢
  by_cases c1 : isLet c = true
  · rw [if_pos c1] at h ⊢
    have hn : n = (r.takeWhile isLet).length := (Prod.mk.inj h).2.symm
    rw [stop isLet (fun b hb => (soft_let hb).1) hn]
    exact h
  rw [if_neg c1] at h ⊢
  by_cases c2 : isDig c = true
  · rw [if_pos c2] at h ⊢
    have hn : n = (r.takeWhile isDig).length := (Prod.mk.inj h).2.symm
    rw [stop isDig (fun b hb => (soft_let hb).2.1) hn]
    exact h
  rw [if_neg c2] at h ⊢
  by_cases c3 : (c == 46) = true
  · rw [if_pos c3] at h ⊢; exact h
  rw [if_neg c3] at h ⊢
  by_cases c4 : (c == 47) = true
  · rw [if_pos c4] at h ⊢; exact h
  rw [if_neg c4] at h ⊢
  by_cases c5 : (c == 45) = true
  · rw [if_pos c5] at h ⊢
    by_cases c6 : (r.head? == some 62) = true
    · rw [if_pos c6] at h
      have hn : 1 = n := (Prod.mk.inj h).2
      subst hn
      cases r with
      | nil => simp at c6
      | cons d r =>
        obtain rfl : d = 62 := by simpa using c6
        rw [if_pos (by simp)]
        exact h
    · rw [if_neg c6] at h
      have hn : 0 = n := (Prod.mk.inj h).2
      subst hn
      rw [if_neg]
      · exact h
      · rw [List.take_zero, List.nil_append]
        rcases hY with hY | ⟨b, hb, hs⟩
        · rw [hY, List.drop_zero]; exact c6
        · rw [hb]
          have := (soft_let hs).2.2
          simpa using this
  rw [if_neg c5] at h ⊢
  by_cases c7 : (c == 10) = true
  · rw [if_pos c7] at h ⊢; exact h
  rw [if_neg c7] at h ⊢
  by_cases c8 : (c == 35) = true
  · rw [if_pos c8] at h; simp at h
  · rw [if_neg c8] at h; simp at h

/-- What stands for nothing has no end of a line. -/
theorem blank_no10 : ∀ (B : List UInt8) (p : Nat), lexW p B = .ok [] → ∀ b ∈ B, notEnd b = true := by
  refine lexW_induct _ (fun p h b hb => by simp at hb) (fun p c r n hx ih h b hb => ?_) (fun p c r n k t v hx ih h => ?_) (fun p c r n e hx h => ?_)
  · rw [lexW_none hx] at h
    have hc : notEnd c = true := by
      rcases lexeme_none hx with ⟨h1, _⟩ | ⟨rfl, _⟩
      · unfold isBlank at h1
        simp only [Bool.or_eq_true, beq_iff_eq] at h1
        rcases h1 with (rfl | rfl) | rfl <;> decide
      · decide
    rcases List.mem_cons.1 hb with rfl | hb
    · exact hc
    · rw [← List.take_append_drop n r, List.mem_append] at hb
      rcases hb with hb | hb
      · rcases lexeme_none hx with ⟨_, rfl⟩ | ⟨_, rfl⟩
        · simp at hb
        · rw [takeWhile_take] at hb; exact takeWhile_all _ _ b hb
      · exact ih h b hb
  · rw [lexW_tok hx] at h
    cases hy : lexW (p + 1 + n) (r.drop n) with
    | error x => rw [hy] at h; simp [glue] at h
    | ok l' => rw [hy] at h; simp [glue] at h
  · rw [lexW_err hx] at h; cases h
theorem notEnd_10 : notEnd 10 = false := by decide
/-- What stands for nothing, and the end of its line. -/
theorem blank_line (R : List UInt8) : ∀ (B : List UInt8) (p : Nat), lexW p B = .ok [] → lexW p (B ++ 10 :: R) = glue [⟨7, p + B.length, [], 0⟩] (lexW (p + B.length + 1) R) := by
  refine lexW_induct _ (fun p _ => ?_) (fun p c r n hx ih h => ?_) (fun p c r n k t v hx ih h => ?_) (fun p c r n e hx h => ?_)
  · rw [List.nil_append, lexW_tok (lexeme_line R)]; rfl
  · have h10 := blank_no10 (c :: r) p h
    rw [lexW_none hx] at h
    rcases lexeme_none hx with ⟨h1, rfl⟩ | ⟨rfl, hn⟩
    · rw [List.cons_append, lexW_none (lexeme_blank h1 (r ++ 10 :: R)), List.drop_zero]
      have := ih h
      rw [List.drop_zero] at this
      rw [this]
      congr 2
      · simp; omega
      · simp; omega
    · have hall : (r ++ 10 :: R).takeWhile notEnd = r := takeWhile_append_stop notEnd _ (fun y hy => by
        obtain rfl : 10 = y := by simpa using hy
        exact notEnd_10) r fun x hx => h10 x (by simp [hx])
      have hh := lexeme_hash (r ++ 10 :: R)
      rw [hall] at hh
      rw [List.cons_append, lexW_none hh, List.drop_left, lexW_tok (lexeme_line R), List.drop_zero]
      congr 2
      · simp; omega
      · simp; omega
  · rw [lexW_tok hx] at h
    cases hy : lexW (p + 1 + n) (r.drop n) with
    | error x => rw [hy] at h; simp [glue] at h
    | ok l' => rw [hy] at h; simp [glue] at h
  · rw [lexW_err hx] at h; cases h
theorem blank_soft {B : List UInt8} {p : Nat} (h : lexW p B = .ok []) {b : UInt8} (hb : B.head? = some b) : soft b = true := by
  cases B with
  | nil => simp at hb
  | cons c r =>
    obtain rfl : c = b := by simpa using hb
    rcases hx : lexeme c r with ⟨x, n⟩
    rcases x with e | _ | ⟨k, t, v⟩
    · rw [lexW_err hx] at h; cases h
    · unfold soft
      rcases lexeme_none hx with ⟨h1, _⟩ | ⟨rfl, _⟩
      · rw [h1]; rfl
      · decide
    · rw [lexW_tok hx] at h
      cases hy : lexW (p + 1 + n) (r.drop n) with
      | error x => rw [hy] at h; simp [glue] at h
      | ok l' => rw [hy] at h; simp [glue] at h

/-- WHAT STANDS FOR NOTHING, AND THE END OF ITS LINE, PUT AHEAD OF A TOKEN: one Line more, and places. -/
theorem lexW_insert (B : List UInt8) (hB : lexW 0 B = .ok []) (hne : B ≠ []) : ∀ (S : List UInt8) (p : Nat) (l : List Tok), lexW p S = .ok l → ∀ (k : Nat) (t : Tok), l[k]? = some t →
    ∃ A R, S = A ++ R ∧ p ≤ t.pos ∧ A.length = t.pos - p ∧ lexW t.pos R = .ok (l.drop k) ∧ lexW p (A ++ (B ++ 10 :: R)) = glue (l.take k ++ [⟨7, t.pos + B.length, [], 0⟩]) (lexW (t.pos + B.length + 1) R) := by
  have hBp : ∀ p, lexW p B = .ok [] := fun p => by
    have := lexW_shift p B 0
    rw [Nat.zero_add, hB] at this
    exact this
  obtain ⟨b, B', hb⟩ : ∃ b B', B = b :: B' := by
    cases B with
    | nil => exact absurd rfl hne
    | cons b B' => exact ⟨b, B', rfl⟩
  have hsoft : soft b = true := blank_soft hB (by rw [hb]; rfl)
  have hBh : (B ++ (10 :: ([] : List UInt8))).head? = some b := by rw [hb]; rfl
  refine lexW_induct _ (fun p l h => ?_) (fun p c r n hx ih l h k t ht => ?_) (fun p c r n kd tx v hx ih l h k t ht => ?_) (fun p c r n e hx l h => ?_)
  · rw [lexW_nil] at h
    obtain rfl : [] = l := Except.ok.inj h
    intro k t ht; simp at ht
  · rw [lexW_none hx] at h
    obtain ⟨A, R, hAR, hp, hA, hR, hI⟩ := ih l h k t ht
    have hr : r = r.take n ++ (A ++ R) := by rw [← hAR, List.take_append_drop]
    have hn : n ≤ r.length := by have := lexeme_le c r; rw [hx] at this; exact this
    refine ⟨c :: (r.take n ++ A), R, by rw [List.cons_append, List.append_assoc, ← hr], by omega, by simp [Nat.min_eq_left hn]; omega, hR, ?_⟩
    rw [List.cons_append, List.append_assoc]
    rcases lexeme_none hx with ⟨h1, rfl⟩ | ⟨rfl, hnn⟩
    · rw [lexW_none (lexeme_blank h1 _), List.drop_zero, List.take_zero, List.nil_append]
      exact hI
    · have hta : ∀ x ∈ r.take n, notEnd x = true := by rw [hnn, takeWhile_take]; exact takeWhile_all _ _
      cases A with
      | cons a A' =>
        have ha : notEnd a = false := takeWhile_stop notEnd r a (by rw [← hnn, hAR]; rfl)
        have hw : (r.take n ++ (a :: A' ++ (B ++ 10 :: R))).takeWhile notEnd = r.take n := takeWhile_append_stop notEnd _ (fun y hy => by
          obtain rfl : a = y := by simpa using hy
          exact ha) _ hta
        have hh := lexeme_hash (r.take n ++ (a :: A' ++ (B ++ 10 :: R)))
        rw [hw, List.length_take, Nat.min_eq_left hn] at hh
        rw [lexW_none hh, List.drop_append_of_le_length (by simp [Nat.min_eq_left hn]), List.drop_of_length_le (by simp; omega), List.nil_append]
        exact hI
      | nil =>
        have hpos : t.pos = p + 1 + n := by simp at hA; omega
        have hR0 : r.drop n = R := hAR
        have hw : (r.take n ++ ([] ++ (B ++ 10 :: R))).takeWhile notEnd = r.take n ++ B := by
          rw [List.nil_append, ← List.append_assoc]
          refine takeWhile_append_stop notEnd _ (fun y hy => ?_) _ (fun x hx => ?_)
          · obtain rfl : 10 = y := by simpa using hy
            exact notEnd_10
          · rcases List.mem_append.1 hx with hx | hx
            · exact hta x hx
            · exact blank_no10 B 0 hB x hx
        have hh := lexeme_hash (r.take n ++ ([] ++ (B ++ 10 :: R)))
        rw [hw, List.length_append, List.length_take, Nat.min_eq_left hn] at hh
        rw [lexW_none hh, List.nil_append, ← List.append_assoc, List.drop_append_of_le_length (by simp [Nat.min_eq_left hn]), List.drop_of_length_le (by simp [Nat.min_eq_left hn]), List.nil_append, lexW_tok (lexeme_line R), List.drop_zero]
        have hk0 : l.take k = [] := by
          rw [← hR0, hpos, h] at hR
          have e := congrArg List.length (Except.ok.inj hR)
          rw [List.length_drop] at e
          have hkl : k < l.length := (List.getElem?_eq_some_iff.1 ht).1
          have : k = 0 := by omega
          rw [this]; rfl
        rw [hk0, List.nil_append, hpos]
        congr 2
        · simp; omega
        · omega
  · rw [lexW_tok hx] at h
    have hn : n ≤ r.length := by have := lexeme_le c r; rw [hx] at this; exact this
    cases hy : lexW (p + 1 + n) (r.drop n) with
    | error x => rw [hy] at h; simp [glue] at h
    | ok l' =>
      rw [hy] at h
      obtain rfl : ⟨kd, p, tx, v⟩ :: l' = l := by simpa [glue] using h
      cases k with
      | zero =>
        obtain rfl : ⟨kd, p, tx, v⟩ = t := by simpa using ht
        refine ⟨[], c :: r, rfl, Nat.le_refl _, by simp, ?_, ?_⟩
        · rw [List.drop_zero, lexW_tok hx, hy]; rfl
        · rw [List.nil_append, blank_line (c :: r) B p (hBp p)]; rfl
      | succ k =>
        obtain ⟨A, R, hAR, hp, hA, hR, hI⟩ := ih l' hy k t (by simpa using ht)
        have hr : r = r.take n ++ (A ++ R) := by rw [← hAR, List.take_append_drop]
        refine ⟨c :: (r.take n ++ A), R, by rw [List.cons_append, List.append_assoc, ← hr], by omega, by simp [Nat.min_eq_left hn]; omega, by simpa using hR, ?_⟩
        rw [List.cons_append, List.append_assoc]
        have hext : lexeme c (r.take n ++ (A ++ (B ++ 10 :: R))) = (Lx.tok kd tx v, n) := by
          refine lexeme_ext hx _ ?_
          cases A with
          | cons a A' => left; rw [hAR]; rfl
          | nil => right; exact ⟨b, by rw [hb]; rfl, hsoft⟩
        rw [lexW_tok hext, List.drop_append_of_le_length (by simp [Nat.min_eq_left hn]), List.drop_of_length_le (by simp; omega), List.nil_append, hI, glue_glue]
        simp
  · rw [lexW_err hx] at h; cases h

theorem lex_put (B : List UInt8) (hB : lexW 0 B = .ok []) (hne : B ≠ []) (S : List UInt8) (l : List Tok) (h : lexW 0 S = .ok l) (k : Nat) (t : Tok) (ht : l[k]? = some t) :
    lexW 0 (S.take t.pos ++ (B ++ 10 :: S.drop t.pos)) = .ok (l.take k ++ ⟨7, t.pos + B.length, [], 0⟩ :: (l.drop k).map (sh (B.length + 1))) := by
  obtain ⟨A, R, hS, _, hA, hR, hI⟩ := lexW_insert B hB hne S 0 l h k t ht
  rw [Nat.sub_zero] at hA
  have e1 : S.take t.pos = A := by rw [hS, ← hA, List.take_left]
  have e2 : S.drop t.pos = R := by rw [hS, ← hA, List.drop_left]
  rw [e1, e2, hI, show t.pos + B.length + 1 = t.pos + (B.length + 1) by omega, lexW_shift, hR]
  simp [shiftE, glue]
end Go.Proofs.Ytjmpakngbdemgaa
namespace Go.Proofs.Ytjmpakngbdemgaa
open Go Go.RowKit
set_option maxRecDepth 20000

theorem idx_iff (l : List UInt8) (c : UInt8) : 0 ≤ Lib.indexByte l c ↔ c ∈ l := by
  induction l with
  | nil => simp [Lib.indexByte]
  | cons b l ih =>
    have := Lib.indexByte_ge l c
    unfold Lib.indexByte
    by_cases h : (b == c) = true
    · rw [if_pos h]
      have : b = c := by simpa using h
      simp [this]
    · rw [if_neg h]
      have hne : ¬ c = b := fun e => h (by simp [e])
      by_cases h2 : (Lib.indexByte l c == -1) = true
      · rw [if_pos h2]
        have h3 : Lib.indexByte l c = -1 := by simpa using h2
        rw [h3] at ih
        simp only [List.mem_cons, hne, false_or, ← ih]
      · rw [if_neg h2]
        have h3 : ¬ Lib.indexByte l c = -1 := by simpa using h2
        simp only [List.mem_cons, hne, false_or, ← ih]
        omega
/-- Where a byte that is there stands first. -/
theorem idx_take (l : List UInt8) (c : UInt8) (h : 0 ≤ Lib.indexByte l c) : Lib.indexByte l c = ((l.takeWhile fun b => b != c).length : Nat) := by
  induction l with
  | nil => simp [Lib.indexByte] at h
  | cons b l ih =>
    have hge := Lib.indexByte_ge l c
    unfold Lib.indexByte at h ⊢
    by_cases h1 : (b == c) = true
    · rw [if_pos h1]
      have : b = c := by simpa using h1
      simp [this]
    · rw [if_neg h1] at h ⊢
      by_cases h2 : (Lib.indexByte l c == -1) = true
      · rw [if_pos h2] at h; omega
      · rw [if_neg h2]
        have h3 : ¬ Lib.indexByte l c = -1 := by simpa using h2
        have hb : (b != c) = true := by simpa using h1
        rw [List.takeWhile_cons, if_pos hb, List.length_cons, ih (by omega)]
        omega
theorem idx_none (l : List UInt8) (c : UInt8) (h : ¬ 0 ≤ Lib.indexByte l c) : (l.takeWhile fun b => b != c).length = l.length := by
  rw [idx_iff] at h
  have := takeWhile_append_stop (fun b => b != c) [] (fun y hy => by simp at hy) l fun b hb => by
    have : b ≠ c := fun e => h (e ▸ hb)
    simpa using this
  rw [List.append_nil] at this
  rw [this]

def abcL : List UInt8 := [97, 98, 99, 100, 101, 102, 103, 104, 105, 106, 107, 108, 109, 110, 111, 112, 113, 114, 115, 116, 117, 118, 119, 120, 121, 122]
def digL : List UInt8 := [48, 49, 50, 51, 52, 53, 54, 55, 56, 57]
theorem all256 (p : UInt8 → Bool) (h : (List.range 256).all (fun n => p (UInt8.ofNat n)) = true) (c : UInt8) : p c = true := by
  rw [List.all_eq_true] at h
  have := h c.toNat (by rw [List.mem_range]; exact c.toNat_lt)
  rwa [UInt8.ofNat_toNat] at this
theorem abc_let (c : UInt8) : decide (0 ≤ Lib.indexByte abcL c) = isLet c := by
  have := all256 (fun c => decide (0 ≤ Lib.indexByte abcL c) == isLet c) (by kernel_rfl) c
  simpa using this
theorem dig_dig (c : UInt8) : decide (0 ≤ Lib.indexByte digL c) = isDig c := by
  have := all256 (fun c => decide (0 ≤ Lib.indexByte digL c) == isDig c) (by kernel_rfl) c
  simpa using this

theorem tw_in (q : UInt8 → Bool) : ∀ (S : List UInt8) (k : Nat), k < (S.takeWhile q).length → ∃ b, S[k]? = some b ∧ q b = true
  | [], k, h => by simp at h
  | c :: S, k, h => by
    rw [List.takeWhile_cons] at h
    split at h
    · rename_i hc
      cases k with
      | zero => exact ⟨c, rfl, hc⟩
      | succ k =>
        obtain ⟨b, h1, h2⟩ := tw_in q S k (by simpa using h)
        exact ⟨b, by simpa using h1, h2⟩
    · simp at h
theorem tw_out (q : UInt8 → Bool) (S : List UInt8) (b : UInt8) (h : S[(S.takeWhile q).length]? = some b) : q b = false :=
  takeWhile_stop q S b (by rw [List.head?_drop]; exact h)
theorem byte_beq (b : UInt8) (c : UInt8) : (((b.toNat : Int)) == (c.toNat : Int)) = (b == c) := by
  rw [Bool.eq_iff_iff, beq_iff_eq, beq_iff_eq]
  constructor
  · intro h; exact UInt8.toNat_inj.1 (by exact_mod_cast h)
  · rintro rfl; rfl
theorem byte_q (s : ByteArray) (k : Nat) (hk : k < s.size) : s.data.toList[k]? = some s[k] := by
  rw [List.getElem?_eq_getElem (by simpa using hk)]; rfl

end Go.Proofs.Ytjmpakngbdemgaa
namespace Go.Proofs.Ytjmpakngbdemgaa
open Go Go.RowKit
set_option maxRecDepth 20000

/-- Where a walk stands still. -/
def StopT (p : Prop) : Prop := p
theorem of_stopT {p : Prop} (h : StopT p) : p := h
/-- A token's cells. -/
def tv (k p : Int) (t : ByteArray) (n : Int) : Array Value := #[.int .i64 k, .int .i64 p, .string t, .int .i64 n]
def encT (t : Tok) : Array Value := tv (t.kind : Nat) (t.pos : Nat) ⟨t.text.toArray⟩ (t.num : Nat)
theorem beq_bytes (a b : ByteArray) : (a == b) = (a.data.toList == b.data.toList) := by rw [beq_toListBytes, ByteArray.toList_eq, ByteArray.toList_eq]
theorem eqFields_step {P : Program} (w : World) {d : Nat} {xs ys : Array Value} {f : Field} {fs : List Field} {a b : Value} {r R : Bool} (hn : f.name ≠ "_") (ha : (part f.type xs f.offset).run P w = .ok a w) (hb : (part f.type ys f.offset).run P w = .ok b w)
    (he : (Op.equalIn d f.type a b).run P w = .ok r w) (h : (Op.eqFields d xs ys fs).run P w = .ok R w) : (Op.eqFields d xs ys (f :: fs)).run P w = .ok (r && R) w := by
  simp only [Op.eqFields, if_pos hn, Sem.run_bind, ha, hb, he, Result.andThen_ok]
  cases r
  · simp
  · simpa using h
theorem part_cell {P : Program} (w : World) {t : TypeId} {xs : Array Value} {k : Nat} {v : Value} (ha : (isAgg t).run P w = .ok false w) (hx : xs[k]? = some v) : (part t xs k).run P w = .ok v w := by
  simp [part, ha, hx, Sem.run_bind]
theorem tc_row {w : World} {g k : Nat} {cs : Array Value} {t : TypeId} {fr : Nat × Nat} (h : w.heap[g]? = some (.cells cs t fr)) (v : Value) : (w.setCell ⟨g, k, none⟩ v).heap[g]? = some (.cells (cs.setIfInBounds k v) t fr) := by
  simp [World.setCell, Array.getElem?_modify, h]
theorem tc_far {w : World} {g g' k : Nat} (h : g ≠ g') (v : Value) : (w.setCell ⟨g, k, none⟩ v).heap[g']? = w.heap[g']? := by
  simp [World.setCell, Array.getElem?_modify, h]
theorem tc_below {B : Nat} {a w : World} (h : Below B a w) {g : Nat} (hg : B ≤ g) (k : Nat) (v : Value) : Below B a (w.setCell ⟨g, k, none⟩ v) :=
  ⟨h.os, h.tape, h.output, by simpa [World.setCell] using h.size, fun j hj => (tc_far (by omega) v).trans (h.block j hj)⟩
theorem tc_size (w : World) (a : Addr) (v : Value) : (w.setCell a v).heap.size = w.heap.size := by simp [World.setCell]
theorem tc_frozen {w : World} {g k : Nat} {cs : Array Value} {t : TypeId} {fr : Nat × Nat} (h : w.heap[g]? = some (.cells cs t fr)) (hf : fr = (0, 0)) : w.frozen? ⟨g, k, none⟩ = false := by
  subst hf
  simp [World.frozen?, h]

end Go.Proofs.Ytjmpakngbdemgaa
