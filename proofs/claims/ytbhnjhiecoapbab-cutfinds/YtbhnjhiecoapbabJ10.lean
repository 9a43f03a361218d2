import Derived.Test.YtbhnjhiecoapbabJ6
namespace Go.Proofs.Ytbhnjhiecoapbab
open Go
set_option maxRecDepth 20000

/-- A number in a text, and where it begins. -/
structure Fig where
  n : Int
  pos : Int
/-- A word and its numbers. -/
structure Cla where
  word : List UInt8
  pos : Int
  nums : List Fig
  slash : Bool
  dash : Bool
/-- A line. -/
structure Raw where
  pos : Int
  dflt : Bool
  prio : Fig
  clauses : List Cla
  drop : Bool
  port : Fig

def wSrc : List UInt8 := [115, 114, 99]
def wDst : List UInt8 := [100, 115, 116]
def wSport : List UInt8 := [115, 112, 111, 114, 116]
def wDport : List UInt8 := [100, 112, 111, 114, 116]
def wProto : List UInt8 := [112, 114, 111, 116, 111]
def wDefault : List UInt8 := [100, 101, 102, 97, 117, 108, 116]
def wDrop : List UInt8 := [100, 114, 111, 112]
def wPort : List UInt8 := [112, 111, 114, 116]
def isAddrW (w : List UInt8) : Bool := w == wSrc || w == wDst
def isPortW (w : List UInt8) : Bool := w == wSport || w == wDport

abbrev Res (α : Type) := Except (Nat × Nat) α

/-- Where the token at hand begins, or the text ends. -/
def posOf (E : Nat) : List Tok → Nat
  | [] => E
  | t :: _ => t.pos
/-- A token of a kind. -/
def takeK (E k : Nat) : List Tok → Res (Tok × List Tok)
  | [] => .error (8, E)
  | t :: T => if t.kind = k then .ok (t, T) else .error (8, t.pos)
/-- A number. -/
def takeF (E : Nat) (T : List Tok) : Res (Fig × List Tok) := (takeK E 2 T).map fun x => (⟨(x.1.num : Int), (x.1.pos : Int)⟩, x.2)
/-- So many numbers more, with a Dot ahead of each. -/
def takeD (E : Nat) : Nat → List Tok → Res (List Fig × List Tok)
  | 0, T => .ok ([], T)
  | n + 1, T => (takeK E 3 T).bind fun x => (takeF E x.2).bind fun y => (takeD E n y.2).map fun z => (y.1 :: z.1, z.2)
/-- Perhaps a sign and a number. -/
def takeO (E k : Nat) : List Tok → Res (Option Fig × List Tok)
  | [] => .ok (none, [])
  | t :: T => if t.kind = k then (takeF E T).map fun y => (some y.1, y.2) else .ok (none, t :: T)
/-- A clause, its word being the token at hand. -/
def takeC (E : Nat) (had : List Cla) (t : Tok) (T : List Tok) : Res (Cla × List Tok) :=
  if !(isAddrW t.text) && !(isPortW t.text) && !(t.text == wProto) then .error (8, t.pos)
  else if had.any (fun c => c.word == t.text) then .error (9, t.pos)
  else (takeF E T).bind fun x =>
    if isAddrW t.text then (takeD E 3 x.2).bind fun y => (takeO E 4 y.2).map fun z => (⟨t.text, (t.pos : Int), x.1 :: y.1 ++ z.1.toList, z.1.isSome, false⟩, z.2)
    else if isPortW t.text then (takeO E 5 x.2).map fun z => (⟨t.text, (t.pos : Int), x.1 :: z.1.toList, false, z.1.isSome⟩, z.2)
    else .ok (⟨t.text, (t.pos : Int), [x.1], false, false⟩, x.2)
/-- Clauses, as many as there are (so many at most). -/
def takeCs (E : Nat) : Nat → List Cla → List Tok → Res (List Cla × List Tok)
  | 0, had, T => .ok (had, T)
  | _ + 1, had, [] => .ok (had, [])
  | f + 1, had, t :: T => if t.kind = 1 then (takeC E had t T).bind fun x => takeCs E f (had ++ [x.1]) x.2 else .ok (had, t :: T)
/-- What is done: the word 'drop', or 'port' and a number. -/
def takeA (E : Nat) : List Tok → Res ((Bool × Fig) × List Tok)
  | [] => .error (8, E)
  | t :: T => if t.kind = 1 ∧ t.text = wDrop then .ok ((true, ⟨0, 0⟩), T) else if t.kind = 1 ∧ t.text = wPort then (takeF E T).map fun x => ((false, x.1), x.2) else .error (8, t.pos)
/-- The end of a line, which is not taken. -/
def takeE : List Tok → Res (List Tok)
  | [] => .ok []
  | t :: T => if t.kind = 7 then .ok (t :: T) else .error (8, t.pos)
/-- What stands ahead of the Arrow. -/
def takeH (E : Nat) : List Tok → Res ((Bool × Fig × List Cla) × List Tok)
  | [] => .error (8, E)
  | t :: T => if t.kind = 1 ∧ t.text = wDefault then .ok ((true, ⟨0, 0⟩, []), T) else (takeF E (t :: T)).bind fun x => (takeCs E x.2.length [] x.2).map fun y => ((false, x.1, y.1), y.2)
/-- A line. -/
def takeR (E : Nat) (T : List Tok) : Res (Raw × List Tok) :=
  (takeH E T).bind fun x => (takeK E 6 x.2).bind fun y => (takeA E y.2).bind fun z => (takeE z.2).map fun u => (⟨(posOf E T : Int), x.1.1, x.1.2.1, x.1.2.2, z.1.1, z.1.2⟩, u)
/-- Lines (so many steps at most). -/
def takeL (E : Nat) : Nat → List Raw → List Tok → Res (List Raw)
  | 0, had, _ => .ok had
  | _ + 1, had, [] => .ok had
  | f + 1, had, t :: T => if t.kind = 7 then takeL E f had T else if had.length = 64 then .error (4, t.pos) else (takeR E (t :: T)).bind fun x => takeL E f (had ++ [x.1]) x.2
/-- A text's lines. -/
def parseT (S : List UInt8) : Res (List Raw) :=
  if 4096 < S.length then .error (5, 4096) else match lexW 0 S with
    | .error x => .error x
    | .ok T => takeL S.length (T.length + 1) [] T

/-- A number's digits. -/
def decF : Nat → Nat → List UInt8
  | 0, n => [UInt8.ofNat (48 + n % 10)]
  | f + 1, n => if n < 10 then [UInt8.ofNat (48 + n)] else decF f (n / 10) ++ [UInt8.ofNat (48 + n % 10)]
def dec (n : Nat) : List UInt8 := decF n n
def decI (n : Int) : List UInt8 := if 0 ≤ n then dec n.toNat else 45 :: dec (-n).toNat
/-- Numbers with a sign between. -/
def numsP (last : UInt8) : List Fig → List UInt8
  | [] => []
  | [x] => last :: decI x.n
  | x :: y :: l => 46 :: decI x.n ++ numsP last (y :: l)
def lastSign (c : Cla) : UInt8 := if c.slash then 47 else if c.dash then 45 else 46
def numsAll (c : Cla) : List UInt8 := match c.nums with
  | [] => []
  | x :: l => decI x.n ++ numsP (lastSign c) l
def claP (c : Cla) : List UInt8 := 32 :: c.word ++ (32 :: numsAll c)
def headP (x : Raw) : List UInt8 := (if x.dflt then wDefault else decI x.prio.n) ++ x.clauses.flatMap claP
def actP (x : Raw) : List UInt8 := if x.drop then wDrop else wPort ++ (32 :: decI x.port.n)
def rowP (x : Raw) : List UInt8 := headP x ++ ([32, 45, 62, 32] ++ (actP x ++ [10]))
def printT (l : List Raw) : List UInt8 := l.flatMap rowP
end Go.Proofs.Ytbhnjhiecoapbab
namespace Go.Proofs.Ytbhnjhiecoapbab
open Go
set_option maxRecDepth 20000

/-- A token but for its place. -/
def st (t : Tok) : Nat × List UInt8 × Nat := (t.kind, t.text, t.num)
abbrev St := Nat × List UInt8 × Nat
def Any (_ : List UInt8) : Prop := True
/-- What doesn't go on with a word or a number. -/
def sepY (Y : List UInt8) : Prop := ∀ y, Y.head? = some y → isLet y = false ∧ isDig y = false
def no62 (Y : List UInt8) : Prop := (Y.head? == some 62) = false
/-- Bytes that come to these tokens, ahead of what is fit. -/
def Lexes (X : List UInt8) (ts : List St) (ok : List UInt8 → Prop) : Prop := ∀ (p : Nat) (Y : List UInt8), ok Y → ∃ T, T.map st = ts ∧ lexW p (X ++ Y) = glue T (lexW (p + X.length) Y)
theorem Lexes.append {A B : List UInt8} {ta tb : List St} {okA okB : List UInt8 → Prop} (h1 : Lexes A ta okA) (h2 : Lexes B tb okB) (h : ∀ Y, okB Y → okA (B ++ Y)) : Lexes (A ++ B) (ta ++ tb) okB := by
  intro p Y hY
  obtain ⟨T1, e1, g1⟩ := h1 p (B ++ Y) (h Y hY)
  obtain ⟨T2, e2, g2⟩ := h2 (p + A.length) Y hY
  refine ⟨T1 ++ T2, by rw [List.map_append, e1, e2], ?_⟩
  rw [List.append_assoc, g1, g2, glue_glue, List.length_append, Nat.add_assoc]
theorem Lexes.nil (ok : List UInt8 → Prop) : Lexes [] [] ok := fun p Y _ => ⟨[], rfl, by rw [glue_nil]; rfl⟩
theorem Lexes.weaken {A : List UInt8} {ta : List St} {ok ok' : List UInt8 → Prop} (h : Lexes A ta ok) (hw : ∀ Y, ok' Y → ok Y) : Lexes A ta ok' := fun p Y hY => h p Y (hw Y hY)

theorem takeWhile_none (q : UInt8 → Bool) (Y : List UInt8) (h : ∀ y, Y.head? = some y → q y = false) : Y.takeWhile q = [] := by
  cases Y with
  | nil => rfl
  | cons y Y => rw [List.takeWhile_cons, if_neg (by rw [h y rfl]; decide)]
theorem let_not {c : UInt8} (h : isLet c = true) : isBlank c = false := by
  unfold isLet at h
  simp only [Bool.and_eq_true, decide_eq_true_eq] at h
  unfold isBlank
  simp only [Bool.or_eq_false_iff, beq_eq_false_iff_ne]
  refine ⟨⟨?_, ?_⟩, ?_⟩ <;> rintro rfl <;> simp at h
theorem dig_not {c : UInt8} (h : isDig c = true) : isBlank c = false ∧ isLet c = false := by
  unfold isDig at h
  simp only [Bool.and_eq_true, decide_eq_true_eq] at h
  refine ⟨?_, ?_⟩
  · unfold isBlank
    simp only [Bool.or_eq_false_iff, beq_eq_false_iff_ne]
    refine ⟨⟨?_, ?_⟩, ?_⟩ <;> rintro rfl <;> simp at h
  · unfold isLet
    simp only [Bool.and_eq_false_iff, decide_eq_false_iff_not]
    omega

theorem lx_word (w : List UInt8) (hw : ∀ c ∈ w, isLet c = true) (hne : w ≠ []) : Lexes w [(1, w, 0)] sepY := by
  intro p Y hY
  cases w with
  | nil => exact absurd rfl hne
  | cons c r =>
    have hc := hw c (by simp)
    have ht : (r ++ Y).takeWhile isLet = r := takeWhile_append_stop isLet Y (fun y hy => (hY y hy).1) r fun x hx => hw x (by simp [hx])
    have hx : lexeme c (r ++ Y) = (Lx.tok 1 (c :: r) 0, r.length) := by
      unfold lexeme
      rw [if_neg (by rw [let_not hc]; decide), if_pos hc, ht]
    refine ⟨[⟨1, p, c :: r, 0⟩], rfl, ?_⟩
    rw [List.cons_append, lexW_tok hx, List.drop_left, List.length_cons]
    congr 2; omega
theorem lx_blank : Lexes [32] [] Any := fun p Y _ => ⟨[], rfl, by
  rw [List.singleton_append, lexW_none (lexeme_blank (by decide) Y), glue_nil]; rfl⟩
theorem lx_one (c : UInt8) (k : Nat) (h : ∀ r, lexeme c r = (Lx.tok k [] 0, 0)) : Lexes [c] [(k, [], 0)] Any := fun p Y _ => ⟨[⟨k, p, [], 0⟩], rfl, by
  rw [List.singleton_append, lexW_tok (h Y)]; rfl⟩
theorem lx_dot : Lexes [46] [(3, [], 0)] Any := lx_one 46 3 fun r => by
  unfold lexeme
  rw [if_neg (by decide), if_neg (by decide), if_neg (by decide), if_pos (by decide)]
theorem lx_slash : Lexes [47] [(4, [], 0)] Any := lx_one 47 4 fun r => by
  unfold lexeme
  rw [if_neg (by decide), if_neg (by decide), if_neg (by decide), if_neg (by decide), if_pos (by decide)]
theorem lx_line : Lexes [10] [(7, [], 0)] Any := lx_one 10 7 lexeme_line
theorem lx_dash : Lexes [45] [(5, [], 0)] no62 := fun p Y hY => ⟨[⟨5, p, [], 0⟩], rfl, by
  have hx : lexeme 45 Y = (Lx.tok 5 [] 0, 0) := by
    unfold lexeme
    rw [if_neg (by decide), if_neg (by decide), if_neg (by decide), if_neg (by decide), if_neg (by decide), if_pos (by decide), if_neg (by rw [hY]; decide)]
  rw [List.singleton_append, lexW_tok hx]; rfl⟩
theorem lx_arrow : Lexes [45, 62] [(6, [], 0)] Any := fun p Y _ => ⟨[⟨6, p, [], 0⟩], rfl, by
  have hx : lexeme 45 (62 :: Y) = (Lx.tok 6 [] 0, 1) := by
    unfold lexeme
    rw [if_neg (by decide), if_neg (by decide), if_neg (by decide), if_neg (by decide), if_neg (by decide), if_pos (by decide), if_pos (by simp)]
  rw [List.cons_append, List.singleton_append, lexW_tok hx]; rfl⟩

/-! Digits. -/
theorem dig_of (k : Nat) (h : k < 10) : isDig (UInt8.ofNat (48 + k)) = true ∧ (UInt8.ofNat (48 + k)).toNat - 48 = k ∧ (UInt8.ofNat (48 + k) == 48) = decide (k = 0) := by
  rcases (show k = 0 ∨ k = 1 ∨ k = 2 ∨ k = 3 ∨ k = 4 ∨ k = 5 ∨ k = 6 ∨ k = 7 ∨ k = 8 ∨ k = 9 by omega) with e | e | e | e | e | e | e | e | e | e <;> subst e <;> decide
theorem val_append (A : List UInt8) (c : UInt8) : val (A ++ [c]) = val A * 10 + (c.toNat - 48) := by simp [val]
theorem decF_facts : ∀ (f n : Nat), n ≤ f → (∀ c ∈ decF f n, isDig c = true) ∧ decF f n ≠ [] ∧ val (decF f n) = n ∧ (n ≠ 0 → (decF f n).head? ≠ some 48) ∧ (n = 0 → (decF f n).length = 1)
  | 0, n, h => by
    obtain rfl : n = 0 := by omega
    refine ⟨?_, ?_, ?_, ?_, ?_⟩ <;> decide
  | f + 1, n, h => by
    rw [decF]
    by_cases hn : n < 10
    · rw [if_pos hn]
      obtain ⟨h1, h2, h3⟩ := dig_of n hn
      refine ⟨fun c hc => by rw [List.mem_singleton.1 hc]; exact h1, by simp, by simp [val]; exact h2, fun h0 => ?_, fun _ => rfl⟩
      rw [List.head?_cons]
      intro he
      rw [Option.some.inj he] at h3
      simp at h3
      exact h0 h3
    · rw [if_neg hn]
      obtain ⟨g1, g2, g3, g4, g5⟩ := decF_facts f (n / 10) (by omega)
      obtain ⟨h1, h2, _⟩ := dig_of (n % 10) (by omega)
      refine ⟨fun c hc => ?_, by simp, ?_, fun _ => ?_, fun h0 => by omega⟩
      · rcases List.mem_append.1 hc with hc | hc
        · exact g1 c hc
        · rw [List.mem_singleton.1 hc]; exact h1
      · rw [val_append, g3, h2]; omega
      · have := g4 (by omega)
        cases hd : decF f (n / 10) with
        | nil => exact absurd hd g2
        | cons c r => rw [hd] at this; simpa using this
theorem dec_facts (n : Nat) : (∀ c ∈ dec n, isDig c = true) ∧ dec n ≠ [] ∧ val (dec n) = n ∧ (n ≠ 0 → (dec n).head? ≠ some 48) ∧ (n = 0 → (dec n).length = 1) := decF_facts n n (Nat.le_refl _)
theorem numOf_dec (n : Nat) (h : n ≤ 4294967295) : numOf (dec n) = some n := by
  obtain ⟨_, _, h3, h4, h5⟩ := dec_facts n
  unfold numOf
  rw [h3, if_neg]
  simp only [Bool.or_eq_true, decide_eq_true_eq, Bool.and_eq_true, beq_iff_eq]
  rintro (h6 | ⟨h6, h7⟩)
  · omega
  · by_cases h0 : n = 0
    · have := h5 h0; omega
    · exact h4 h0 h7
theorem lx_num (n : Nat) (h : n ≤ 4294967295) : Lexes (dec n) [(2, [], n)] sepY := by
  intro p Y hY
  have hn := numOf_dec n h
  obtain ⟨h1, h2, _⟩ := dec_facts n
  cases hd : dec n with
  | nil => exact absurd hd h2
  | cons c r =>
    rw [hd] at h1 hn
    have hc := h1 c (by simp)
    have ht : (r ++ Y).takeWhile isDig = r := takeWhile_append_stop isDig Y (fun y hy => (hY y hy).2) r fun x hx => h1 x (by simp [hx])
    have hx : lexeme c (r ++ Y) = (Lx.tok 2 [] n, r.length) := by
      unfold lexeme
      rw [if_neg (by rw [(dig_not hc).1]; decide), if_neg (by rw [(dig_not hc).2]; decide), if_pos hc, ht, hn]
    refine ⟨[⟨2, p, [], n⟩], rfl, ?_⟩
    rw [List.cons_append, lexW_tok hx, List.drop_left, List.length_cons]
    congr 2; omega

/-- A number that a text may hold. -/
def okF (x : Fig) : Prop := 0 ≤ x.n ∧ x.n ≤ 4294967295
theorem lx_fig (x : Fig) (h : okF x) : Lexes (decI x.n) [(2, [], x.n.toNat)] sepY := by
  unfold decI
  rw [if_pos h.1]
  exact lx_num _ (by have := h.2; omega)
theorem decI_head (x : Fig) (h : okF x) (Y : List UInt8) : no62 (decI x.n ++ Y) := by
  unfold decI no62
  rw [if_pos h.1]
  obtain ⟨h1, h2, _⟩ := dec_facts x.n.toNat
  cases hd : dec x.n.toNat with
  | nil => exact absurd hd h2
  | cons c r =>
    rw [hd] at h1
    have hc := h1 c (by simp)
    simp only [List.cons_append, List.head?_cons]
    cases e : ((some c : Option UInt8) == some 62) with
    | false => rfl
    | true =>
      obtain rfl : c = 62 := by simpa using e
      exact absurd hc (by decide)
def signT (s : UInt8) : St := (if s = 47 then 4 else if s = 45 then 5 else 3, [], 0)
/-- The tokens of numbers with a sign between. -/
def numsT (s : UInt8) : List Fig → List St
  | [] => []
  | [x] => [signT s, (2, [], x.n.toNat)]
  | x :: y :: l => (3, [], 0) :: (2, [], x.n.toNat) :: numsT s (y :: l)
theorem sep_cons {c : UInt8} (h : isLet c = false ∧ isDig c = false) (Y : List UInt8) : sepY (c :: Y) := fun y hy => by
  obtain rfl : c = y := by simpa using hy
  exact h
theorem lx_sign (s : UInt8) (hs : s = 47 ∨ s = 45 ∨ s = 46) (x : Fig) (hx : okF x) : Lexes (s :: decI x.n) [signT s, (2, [], x.n.toNat)] sepY := by
  rcases hs with rfl | rfl | rfl
  · exact lx_slash.append (lx_fig x hx) (fun _ _ => trivial)
  · exact lx_dash.append (lx_fig x hx) (fun Y _ => decI_head x hx Y)
  · exact lx_dot.append (lx_fig x hx) (fun _ _ => trivial)
theorem numsP_sep (s : UInt8) (hs : s = 47 ∨ s = 45 ∨ s = 46) : ∀ (l : List Fig) (Y : List UInt8), sepY Y → sepY (numsP s l ++ Y)
  | [], Y, hY => hY
  | [x], Y, _ => by rcases hs with rfl | rfl | rfl <;> exact sep_cons (by decide) _
  | x :: y :: l, Y, _ => sep_cons (by decide) _
theorem lx_nums (s : UInt8) (hs : s = 47 ∨ s = 45 ∨ s = 46) : ∀ l : List Fig, (∀ x ∈ l, okF x) → Lexes (numsP s l) (numsT s l) sepY
  | [], _ => Lexes.nil _
  | [x], h => lx_sign s hs x (h x (by simp))
  | x :: y :: l, h => by
    have h1 := lx_dot.append (lx_fig x (h x (by simp))) (fun _ _ => trivial)
    exact h1.append (lx_nums s hs (y :: l) fun z hz => h z (by simp [hz])) (fun Y hY => numsP_sep s hs (y :: l) Y hY)
theorem lastSign_ok (c : Cla) : lastSign c = 47 ∨ lastSign c = 45 ∨ lastSign c = 46 := by
  unfold lastSign
  cases c.slash <;> cases c.dash <;> simp
end Go.Proofs.Ytbhnjhiecoapbab
