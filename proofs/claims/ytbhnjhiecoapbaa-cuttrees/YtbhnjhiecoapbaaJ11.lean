import Derived.Test.YtbhnjhiecoapbaaJ10
namespace Go.Proofs.Ytbhnjhiecoapbaa
open Go
set_option maxRecDepth 20000

/-- A clause as it may be. -/
def okC (c : Cla) : Prop := (∀ x ∈ c.nums, okF x) ∧
  ((isAddrW c.word = true ∧ c.dash = false ∧ c.nums.length = if c.slash then 5 else 4) ∨ (isPortW c.word = true ∧ isAddrW c.word = false ∧ c.slash = false ∧ c.nums.length = if c.dash then 2 else 1) ∨
    (c.word = wProto ∧ c.slash = false ∧ c.dash = false ∧ c.nums.length = 1))
/-- A line as it may be. -/
structure okR (x : Raw) : Prop where
  prio : okF x.prio
  port : okF x.port
  clauses : ∀ c ∈ x.clauses, okC c
  apart : x.clauses.Pairwise fun a b => a.word ≠ b.word
  dflt : x.dflt = true → x.clauses = [] ∧ x.prio.n = 0
  drop : x.drop = true → x.port.n = 0

def tokC (c : Cla) : List St := (1, c.word, 0) :: (match c.nums with | [] => [] | x :: l => (2, [], x.n.toNat) :: numsT (lastSign c) l)
def tokH (x : Raw) : List St := if x.dflt then [(1, wDefault, 0)] else (2, [], x.prio.n.toNat) :: x.clauses.flatMap tokC
def tokA (x : Raw) : List St := if x.drop then [(1, wDrop, 0)] else [(1, wPort, 0), (2, [], x.port.n.toNat)]
def tokR (x : Raw) : List St := tokH x ++ ([(6, [], 0)] ++ (tokA x ++ [(7, [], 0)]))

theorem word_let {c : Cla} (h : okC c) : (∀ b ∈ c.word, isLet b = true) ∧ c.word ≠ [] := by
  have hw : c.word = wSrc ∨ c.word = wDst ∨ c.word = wSport ∨ c.word = wDport ∨ c.word = wProto := by
    rcases h.2 with ⟨h1, _⟩ | ⟨h1, _⟩ | ⟨h1, _⟩
    · unfold isAddrW at h1; simp only [Bool.or_eq_true, beq_iff_eq] at h1; rcases h1 with h1 | h1 <;> simp [h1]
    · unfold isPortW at h1; simp only [Bool.or_eq_true, beq_iff_eq] at h1; rcases h1 with h1 | h1 <;> simp [h1]
    · simp [h1]
  rcases hw with e | e | e | e | e <;> rw [e] <;> exact ⟨by decide, by decide⟩
theorem lx_cla (c : Cla) (h : okC c) : Lexes (claP c) (tokC c) sepY := by
  obtain ⟨h1, h2⟩ := word_let h
  have hnum : Lexes (numsAll c) (match c.nums with | [] => [] | x :: l => (2, [], x.n.toNat) :: numsT (lastSign c) l) sepY := by
    unfold numsAll
    cases hn : c.nums with
    | nil => exact Lexes.nil _
    | cons x l =>
      have hx : ∀ y ∈ x :: l, okF y := by rw [← hn]; exact h.1
      exact (lx_fig x (hx x (by simp))).append (lx_nums _ (lastSign_ok c) l fun y hy => hx y (by simp [hy])) (fun Y hY => numsP_sep _ (lastSign_ok c) l Y hY)
  have hb : Lexes (32 :: numsAll c) _ sepY := lx_blank.append hnum (fun _ _ => trivial)
  have hw : Lexes (c.word ++ (32 :: numsAll c)) _ sepY := (lx_word c.word h1 h2).append hb (fun Y _ => sep_cons (by decide) _)
  exact lx_blank.append hw (fun _ _ => trivial)
theorem lx_clas : ∀ l : List Cla, (∀ c ∈ l, okC c) → Lexes (l.flatMap claP) (l.flatMap tokC) sepY
  | [], _ => Lexes.nil _
  | c :: l, h => by
    rw [List.flatMap_cons, List.flatMap_cons]
    refine (lx_cla c (h c (by simp))).append (lx_clas l fun d hd => h d (by simp [hd])) (fun Y hY => ?_)
    cases l with
    | nil => exact hY
    | cons d l => rw [List.flatMap_cons]; exact sep_cons (by decide) _
theorem clas_sep (l : List Cla) (Y : List UInt8) (hY : sepY Y) : sepY (l.flatMap claP ++ Y) := by
  cases l with
  | nil => exact hY
  | cons d l => rw [List.flatMap_cons]; exact sep_cons (by decide) _
theorem lx_row (x : Raw) (h : okR x) : Lexes (rowP x) (tokR x) Any := by
  have hh : Lexes (headP x) (tokH x) sepY := by
    unfold headP tokH
    cases hd : x.dflt with
    | true =>
      rw [(h.dflt hd).1, if_pos rfl, if_pos rfl, List.flatMap_nil, List.append_nil]
      exact lx_word wDefault (by decide) (by decide)
    | false =>
      rw [if_neg (by decide), if_neg (by decide)]
      exact (lx_fig x.prio h.prio).append (lx_clas x.clauses h.clauses) (fun Y hY => clas_sep _ Y hY)
  have ha : Lexes (actP x ++ [10]) (tokA x ++ [(7, [], 0)]) Any := by
    unfold actP tokA
    cases hd : x.drop with
    | true => exact (lx_word wDrop (by decide) (by decide)).append lx_line (fun Y _ => sep_cons (by decide) _)
    | false =>
      have h1 := lx_blank.append (lx_fig x.port h.port) (fun _ _ => trivial)
      have h2 := (lx_word wPort (by decide) (by decide)).append h1 (fun Y _ => sep_cons (by decide) _)
      exact h2.append lx_line (fun Y _ => sep_cons (by decide) _)
  have hm : Lexes [32, 45, 62, 32] [(6, [], 0)] Any := (lx_blank.append lx_arrow (fun _ _ => trivial)).append lx_blank (fun _ _ => trivial)
  exact hh.append (hm.append ha (fun _ _ => trivial)) (fun Y _ => sep_cons (by decide) _)
theorem lx_print : ∀ l : List Raw, (∀ x ∈ l, okR x) → Lexes (printT l) (l.flatMap tokR) Any
  | [], _ => Lexes.nil _
  | x :: l, h => by
    unfold printT
    rw [List.flatMap_cons, List.flatMap_cons]
    exact (lx_row x (h x (by simp))).append (lx_print l fun y hy => h y (by simp [hy])) (fun _ _ => trivial)
/-- WHAT IS PRINTED COMES TO ITS TOKENS. -/
theorem lex_print (l : List Raw) (h : ∀ x ∈ l, okR x) : ∃ T, T.map st = l.flatMap tokR ∧ lexW 0 (printT l) = .ok T := by
  obtain ⟨T, h1, h2⟩ := lx_print l h 0 [] trivial
  rw [List.append_nil, lexW_nil] at h2
  exact ⟨T, h1, by rw [h2]; simp [glue]⟩

/-! The tokens of a line, parsed. -/
def clC (c : Cla) : List UInt8 × List Int × Bool × Bool := (c.word, c.nums.map (·.n), c.slash, c.dash)
def clR (x : Raw) : Bool × Int × List (List UInt8 × List Int × Bool × Bool) × Bool × Int := (x.dflt, x.prio.n, x.clauses.map clC, x.drop, x.port.n)

theorem map_cons {T : List Tok} {a : St} {b : List St} (h : T.map st = a :: b) : ∃ t T', T = t :: T' ∧ st t = a ∧ T'.map st = b := by
  cases T with
  | nil => simp at h
  | cons t T' =>
    rw [List.map_cons] at h
    exact ⟨t, T', rfl, (List.cons.inj h).1, (List.cons.inj h).2⟩
theorem takeK_ok (E k : Nat) {T : List Tok} {w : List UInt8} {v : Nat} {b : List St} (h : T.map st = (k, w, v) :: b) : ∃ t T', takeK E k T = .ok (t, T') ∧ st t = (k, w, v) ∧ T'.map st = b := by
  obtain ⟨t, T', rfl, h1, h2⟩ := map_cons h
  refine ⟨t, T', ?_, h1, h2⟩
  have : t.kind = k := congrArg Prod.fst h1
  rw [takeK, if_pos this]
theorem takeF_ok (E : Nat) {T : List Tok} {x : Int} {b : List St} (hx : 0 ≤ x) (h : T.map st = (2, [], x.toNat) :: b) : ∃ f T', takeF E T = .ok (f, T') ∧ f.n = x ∧ T'.map st = b := by
  obtain ⟨t, T', h1, h2, h3⟩ := takeK_ok E 2 h
  refine ⟨⟨(t.num : Int), (t.pos : Int)⟩, T', by unfold takeF; rw [h1]; rfl, ?_, h3⟩
  have : t.num = x.toNat := congrArg (fun s => s.2.2) h2
  show (t.num : Int) = x
  omega
theorem takeD_ok (E : Nat) : ∀ (n : Nat) (l : List Fig) (T : List Tok) (b : List St), l.length = n → (∀ x ∈ l, okF x) → T.map st = numsT 46 l ++ b → ∃ l' T', takeD E n T = .ok (l', T') ∧ l'.map (·.n) = l.map (·.n) ∧ T'.map st = b
  | 0, l, T, b, hl, _, h => by
    obtain rfl : l = [] := List.eq_nil_of_length_eq_zero hl
    exact ⟨[], T, rfl, rfl, h⟩
  | n + 1, [], T, b, hl, _, _ => by simp at hl
  | n + 1, x :: l, T, b, hl, hx, h => by
    have h' : T.map st = (3, [], 0) :: (2, [], x.n.toNat) :: (numsT 46 l ++ b) := by
      cases l with
      | nil => exact h
      | cons y l => exact h
    obtain ⟨t, T1, e1, _, h1⟩ := takeK_ok E 3 h'
    obtain ⟨f, T2, e2, hf, h2⟩ := takeF_ok E (hx x (by simp)).1 h1
    obtain ⟨l', T3, e3, hl', h3⟩ := takeD_ok E n l T2 b (by simpa using hl) (fun y hy => hx y (by simp [hy])) h2
    refine ⟨f :: l', T3, ?_, by rw [List.map_cons, List.map_cons, hf, hl'], h3⟩
    rw [takeD, e1]
    simp [Except.bind, Except.map, e2, e3]
theorem numsT_split (s : UInt8) : ∀ (l : List Fig) (x : Fig), numsT s (l ++ [x]) = numsT 46 l ++ [signT s, (2, [], x.n.toNat)]
  | [], x => rfl
  | [y], x => rfl
  | y :: z :: l, x => by
    have := numsT_split s (z :: l) x
    rw [List.cons_append, List.cons_append] at *
    simp only [numsT, List.cons_append, this]
/-- No sign of a kind at hand. -/
def notK (k : Nat) (b : List St) : Prop := ∀ s, b.head? = some s → s.1 ≠ k
theorem takeO_no (E k : Nat) {T : List Tok} {b : List St} (h : T.map st = b) (hb : notK k b) : takeO E k T = .ok (none, T) := by
  cases T with
  | nil => rfl
  | cons t T =>
    rw [takeO, if_neg]
    intro hk
    refine hb (st t) ?_ hk
    rw [← h]; rfl
theorem takeO_yes (E k : Nat) {T : List Tok} {x : Int} {b : List St} (hx : 0 ≤ x) (h : T.map st = (k, [], 0) :: (2, [], x.toNat) :: b) : ∃ f T', takeO E k T = .ok (some f, T') ∧ f.n = x ∧ T'.map st = b := by
  obtain ⟨t, T1, rfl, h1, h2⟩ := map_cons h
  obtain ⟨f, T2, e2, hf, h3⟩ := takeF_ok E hx h2
  refine ⟨f, T2, ?_, hf, h3⟩
  have : t.kind = k := congrArg Prod.fst h1
  rw [takeO, if_pos this, e2]
  rfl

theorem proto_not : isAddrW wProto = false ∧ isPortW wProto = false := by decide
theorem claT_ok (E : Nat) (had : List Cla) (c : Cla) (hc : okC c) (hh : had.any (fun d => d.word == c.word) = false) {T : List Tok} {b : List St} (h : T.map st = tokC c ++ b) (h4 : notK 4 b) (h5 : notK 5 b) :
    ∃ t T0 c' T', T = t :: T0 ∧ t.kind = 1 ∧ takeC E had t T0 = .ok (c', T') ∧ clC c' = clC c ∧ T'.map st = b := by
  obtain ⟨t, T0, rfl, ht, h0⟩ := map_cons (show T.map st = (1, c.word, 0) :: _ from h)
  have hk : t.kind = 1 := congrArg Prod.fst ht
  have hw : t.text = c.word := congrArg (fun s => s.2.1) ht
  obtain ⟨hx, hcase⟩ := hc
  have hne : c.nums ≠ [] := by
    intro e
    rw [e] at hcase
    rcases hcase with ⟨_, _, hl⟩ | ⟨_, _, _, hl⟩ | ⟨_, _, _, hl⟩
    · split at hl <;> simp at hl
    · split at hl <;> simp at hl
    · simp at hl
  obtain ⟨n0, l, hn⟩ : ∃ n0 l, c.nums = n0 :: l := by
    cases e : c.nums with
    | nil => exact absurd e hne
    | cons n0 l => exact ⟨n0, l, rfl⟩
  rw [hn] at h0 hx hcase
  obtain ⟨f0, T1, e1, hf0, h1⟩ := takeF_ok E (hx n0 (by simp)).1 (show T0.map st = (2, [], n0.n.toNat) :: (numsT (lastSign c) l ++ b) from h0)
  refine ⟨t, T0, ?_⟩
  have hxl : ∀ y ∈ l, okF y := fun y hy => hx y (by simp [hy])
  rcases hcase with ⟨ha, hd, hl⟩ | ⟨hp, ha, hs, hl⟩ | ⟨hpw, hs, hd, hl⟩
  · cases hsl : c.slash with
    | false =>
      rw [hsl] at hl
      have hls : lastSign c = 46 := by unfold lastSign; rw [hsl, hd]; rfl
      rw [hls] at h1
      obtain ⟨l', T2, e2, hl', h2⟩ := takeD_ok E 3 l T1 b (by simpa using hl) hxl h1
      have e3 := takeO_no E 4 h2 h4
      refine ⟨⟨t.text, (t.pos : Int), f0 :: l' ++ (none : Option Fig).toList, (none : Option Fig).isSome, false⟩, T2, rfl, hk, ?_, ?_, h2⟩
      · unfold takeC
        rw [hw, ha, hh, if_neg (by simp), if_neg (by simp), e1]
        simp [Except.bind, Except.map, e2, e3]
      · simp [clC, hw, hn, hf0, hl', hsl, hd]
    | true =>
      rw [hsl] at hl
      have hls : lastSign c = 47 := by unfold lastSign; rw [hsl]; rfl
      obtain ⟨l3, x, rfl⟩ : ∃ l3 x, l = l3 ++ [x] := by
        have hne2 : l ≠ [] := by intro e; rw [e] at hl; simp at hl
        exact ⟨l.dropLast, l.getLast hne2, (List.dropLast_concat_getLast hne2).symm⟩
      rw [hls, numsT_split, List.append_assoc] at h1
      obtain ⟨l', T2, e2, hl', h2⟩ := takeD_ok E 3 l3 T1 _ (by simp at hl; omega) (fun y hy => hxl y (by simp [hy])) h1
      obtain ⟨f1, T3, e3, hf1, h3⟩ := takeO_yes E 4 (hxl x (by simp)).1 (show T2.map st = (4, [], 0) :: (2, [], x.n.toNat) :: b from h2)
      refine ⟨⟨t.text, (t.pos : Int), f0 :: l' ++ (some f1).toList, (some f1).isSome, false⟩, T3, rfl, hk, ?_, ?_, h3⟩
      · unfold takeC
        rw [hw, ha, hh, if_neg (by simp), if_neg (by simp), e1]
        simp [Except.bind, Except.map, e2, e3]
      · simp [clC, hw, hn, hf0, hl', hsl, hd, hf1]
  · cases hda : c.dash with
    | false =>
      rw [hda] at hl
      obtain rfl : l = [] := by simpa using hl
      have e3 := takeO_no E 5 (show T1.map st = b from h1) h5
      refine ⟨⟨t.text, (t.pos : Int), f0 :: (none : Option Fig).toList, false, (none : Option Fig).isSome⟩, T1, rfl, hk, ?_, ?_, h1⟩
      · unfold takeC
        rw [hw, ha, hp, hh, if_neg (by simp), if_neg (by simp), e1]
        simp [Except.bind, Except.map, e3]
      · simp [clC, hw, hn, hf0, hs, hda]
    | true =>
      rw [hda] at hl
      obtain ⟨x, rfl⟩ : ∃ x, l = [x] := List.length_eq_one_iff.1 (by simpa using hl)
      have hls : lastSign c = 45 := by unfold lastSign; rw [hs, hda]; rfl
      rw [hls] at h1
      obtain ⟨f1, T3, e3, hf1, h3⟩ := takeO_yes E 5 (hxl x (by simp)).1 (show T1.map st = (5, [], 0) :: (2, [], x.n.toNat) :: b from h1)
      refine ⟨⟨t.text, (t.pos : Int), f0 :: (some f1).toList, false, (some f1).isSome⟩, T3, rfl, hk, ?_, ?_, h3⟩
      · unfold takeC
        rw [hw, ha, hp, hh, if_neg (by simp), if_neg (by simp), e1]
        simp [Except.bind, Except.map, e3]
      · simp [clC, hw, hn, hf0, hs, hda, hf1]
  · obtain rfl : l = [] := by simpa using hl
    refine ⟨⟨t.text, (t.pos : Int), [f0], false, false⟩, T1, rfl, hk, ?_, ?_, h1⟩
    · unfold takeC
      rw [hw, hpw, proto_not.1, proto_not.2]
      rw [hpw] at hh
      rw [hh, if_neg (by simp), if_neg (by simp), e1]
      simp [Except.bind]
    · simp [clC, hw, hn, hf0, hs, hd]

theorem clas_ok (E : Nat) : ∀ (l : List Cla) (f : Nat) (had : List Cla) (T : List Tok) (b : List St), l.length ≤ f → (∀ c ∈ l, okC c) → l.Pairwise (fun a b => a.word ≠ b.word) → (∀ d ∈ had, ∀ c ∈ l, d.word ≠ c.word) → T.map st = l.flatMap tokC ++ b → notK 1 b → notK 4 b → notK 5 b →
    ∃ l' T', takeCs E f had T = .ok (had ++ l', T') ∧ l'.map clC = l.map clC ∧ T'.map st = b
  | [], f, had, T, b, _, _, _, _, h, h1, _, _ => by
    refine ⟨[], T, ?_, rfl, h⟩
    rw [List.append_nil]
    cases f with
    | zero => rfl
    | succ f =>
      cases T with
      | nil => rfl
      | cons t T =>
        rw [takeCs, if_neg]
        intro hk
        exact h1 (st t) (by rw [← show (t :: T).map st = b from h]; rfl) hk
  | c :: l, 0, had, T, b, hf, _, _, _, _, _, _, _ => by simp at hf
  | c :: l, f + 1, had, T, b, hf, hok, hpw, hhad, h, h1, h4, h5 => by
    rw [List.flatMap_cons, List.append_assoc] at h
    have nk : ∀ k, k ≠ 1 → notK k b → notK k (l.flatMap tokC ++ b) := fun k hk1 hb => by
      cases l with
      | nil => exact hb
      | cons d l =>
        intro s hs
        obtain rfl : (1, d.word, 0) = s := by simpa [tokC] using hs
        exact fun e => hk1 e.symm
    have hany : had.any (fun d => d.word == c.word) = false := by
      rw [List.any_eq_false]
      intro d hd
      have := hhad d hd c (by simp)
      simpa using this
    obtain ⟨t, T0, c', T', rfl, hk, e1, hc', h2⟩ := claT_ok E had c (hok c (by simp)) hany h (nk 4 (by decide) h4) (nk 5 (by decide) h5)
    rw [List.pairwise_cons] at hpw
    have hw : c'.word = c.word := congrArg Prod.fst hc'
    obtain ⟨l', T2, e2, hl', h3⟩ := clas_ok E l f (had ++ [c']) T' b (by simpa using hf) (fun d hd => hok d (by simp [hd])) hpw.2 (fun d hd e he => by
      rcases List.mem_append.1 hd with hd | hd
      · exact hhad d hd e (by simp [he])
      · rw [List.mem_singleton.1 hd, hw]; exact hpw.1 e he) h2 h1 h4 h5
    refine ⟨c' :: l', T2, ?_, by rw [List.map_cons, List.map_cons, hc', hl'], h3⟩
    rw [takeCs, if_pos hk, e1]
    simp only [Except.bind]
    rw [e2, List.append_assoc]; rfl

theorem tok_len (c : Cla) : 1 ≤ (tokC c).length := by unfold tokC; simp
theorem toks_len (l : List Cla) : l.length ≤ (l.flatMap tokC).length := by
  induction l with
  | nil => exact Nat.le_refl _
  | cons c l ih =>
    have := tok_len c
    rw [List.flatMap_cons, List.length_append, List.length_cons]; omega
theorem rowT_ok (E : Nat) (x : Raw) (hx : okR x) {T : List Tok} {b : List St} (h : T.map st = tokR x ++ b) :
    ∃ x' T', takeR E T = .ok (x', T') ∧ clR x' = clR x ∧ T'.map st = (7, [], 0) :: b := by
  have hhead : ∀ b', T.map st = tokH x ++ (6, [], 0) :: b' → ∃ d p cs T1, takeH E T = .ok ((d, p, cs), T1) ∧ d = x.dflt ∧ p.n = x.prio.n ∧ cs.map clC = x.clauses.map clC ∧ T1.map st = (6, [], 0) :: b' := by
    intro b' hT
    unfold tokH at hT
    cases hd : x.dflt with
    | true =>
      rw [hd, if_pos rfl] at hT
      obtain ⟨t, T0, rfl, ht, h0⟩ := map_cons (show T.map st = (1, wDefault, 0) :: (6, [], 0) :: b' from hT)
      have hk : t.kind = 1 := congrArg Prod.fst ht
      have hw : t.text = wDefault := congrArg (fun s => s.2.1) ht
      refine ⟨true, ⟨0, 0⟩, [], T0, by rw [takeH, if_pos ⟨hk, hw⟩], rfl, (hx.dflt hd).2.symm, by rw [(hx.dflt hd).1], h0⟩
    | false =>
      rw [hd, if_neg (by decide)] at hT
      obtain ⟨f, T1, e1, hf, h1⟩ := takeF_ok E hx.prio.1 (show T.map st = (2, [], x.prio.n.toNat) :: (x.clauses.flatMap tokC ++ (6, [], 0) :: b') from hT)
      have hlen : x.clauses.length ≤ T1.length := by
        have h2 := congrArg List.length h1
        rw [List.length_map, List.length_append] at h2
        have := toks_len x.clauses
        omega
      have nk : ∀ k, k ≠ 6 → notK k ((6, [], 0) :: b') := fun k hk s hs => by
        obtain rfl : (6, [], 0) = s := by simpa using hs
        exact fun e => hk e.symm
      obtain ⟨l', T2, e2, hl', h2⟩ := clas_ok E x.clauses T1.length [] T1 _ hlen hx.clauses hx.apart (fun d hd => by simp at hd) h1 (nk 1 (by decide)) (nk 4 (by decide)) (nk 5 (by decide))
      cases T with
      | nil => simp at hT
      | cons t T0 =>
        have hk2 : t.kind = 2 := congrArg Prod.fst (List.cons.inj (show st t :: T0.map st = (2, [], x.prio.n.toNat) :: _ from hT)).1
        refine ⟨false, f, l', T2, ?_, rfl, hf, hl', h2⟩
        rw [takeH, if_neg (by rintro ⟨hk, _⟩; omega), e1]
        simp [Except.bind, Except.map, e2]
  have hact : ∀ {T2 : List Tok}, T2.map st = tokA x ++ (7, [], 0) :: b → ∃ d p T3, takeA E T2 = .ok ((d, p), T3) ∧ d = x.drop ∧ p.n = x.port.n ∧ T3.map st = (7, [], 0) :: b := by
    intro T2 hT
    unfold tokA at hT
    cases hd : x.drop with
    | true =>
      rw [hd, if_pos rfl] at hT
      obtain ⟨t, T0, rfl, ht, h0⟩ := map_cons (show T2.map st = (1, wDrop, 0) :: (7, [], 0) :: b from hT)
      have hk : t.kind = 1 := congrArg Prod.fst ht
      have hw : t.text = wDrop := congrArg (fun s => s.2.1) ht
      exact ⟨true, ⟨0, 0⟩, T0, by rw [takeA, if_pos ⟨hk, hw⟩], rfl, (hx.drop hd).symm, h0⟩
    | false =>
      rw [hd, if_neg (by decide)] at hT
      obtain ⟨t, T0, rfl, ht, h0⟩ := map_cons (show T2.map st = (1, wPort, 0) :: (2, [], x.port.n.toNat) :: (7, [], 0) :: b from hT)
      have hk : t.kind = 1 := congrArg Prod.fst ht
      have hw : t.text = wPort := congrArg (fun s => s.2.1) ht
      obtain ⟨f, T3, e3, hf, h3⟩ := takeF_ok E hx.port.1 h0
      refine ⟨false, f, T3, ?_, rfl, hf, h3⟩
      rw [takeA, if_neg (by rintro ⟨_, e⟩; rw [hw] at e; exact absurd e (by decide)), if_pos ⟨hk, hw⟩, e3]
      rfl
  have hT : T.map st = tokH x ++ (6, [], 0) :: (tokA x ++ (7, [], 0) :: b) := by
    rw [h]; simp [tokR]
  obtain ⟨d, p, cs, T1, e1, rfl, hp, hcs, h1⟩ := hhead _ hT
  obtain ⟨t, T2, e2, _, h2⟩ := takeK_ok E 6 h1
  obtain ⟨d2, p2, T3, e3, rfl, hp2, h3⟩ := hact h2
  have e4 : takeE T3 = .ok T3 := by
    obtain ⟨u, T4, rfl, hu, _⟩ := map_cons h3
    have hk : u.kind = 7 := congrArg Prod.fst hu
    rw [takeE, if_pos hk]
  refine ⟨⟨(posOf E T : Int), x.dflt, p, cs, x.drop, p2⟩, T3, ?_, by simp [clR, hp, hcs, hp2], h3⟩
  unfold takeR
  rw [e1]
  simp [Except.bind, Except.map, e2, e3, e4]
theorem tokR_head (x : Raw) : ∃ s r, tokR x = s :: r ∧ s.1 ≠ 7 := by
  unfold tokR tokH
  cases x.dflt
  · exact ⟨_, _, rfl, show (2 : Nat) ≠ 7 by decide⟩
  · exact ⟨_, _, rfl, show (1 : Nat) ≠ 7 by decide⟩
theorem rows_ok (E : Nat) : ∀ (l : List Raw) (f : Nat) (had : List Raw) (T : List Tok), T.length < f → had.length + l.length ≤ 64 → (∀ x ∈ l, okR x) → T.map st = l.flatMap tokR → ∃ l', takeL E f had T = .ok (had ++ l') ∧ l'.map clR = l.map clR
  | [], f, had, T, hf, _, _, h => by
    obtain rfl : T = [] := by simpa using h
    refine ⟨[], ?_, rfl⟩
    rw [List.append_nil]
    cases f with
    | zero => rfl
    | succ f => rfl
  | x :: l, 0, had, T, hf, _, _, _ => by omega
  | x :: l, 1, had, T, hf, _, _, h => by
    obtain rfl : T = [] := List.eq_nil_of_length_eq_zero (by omega)
    obtain ⟨s, r, e, _⟩ := tokR_head x
    rw [List.flatMap_cons, e] at h
    simp at h
  | x :: l, f + 2, had, T, hf, h64, hok, h => by
    rw [List.flatMap_cons] at h
    obtain ⟨x', T', e1, hx', h1⟩ := rowT_ok E x (hok x (by simp)) h
    obtain ⟨s, r, e, hs⟩ := tokR_head x
    rw [e, List.cons_append] at h
    obtain ⟨t, T0, rfl, ht, _⟩ := map_cons h
    have hk : t.kind ≠ 7 := by rw [show t.kind = s.1 from congrArg Prod.fst ht]; exact hs
    obtain ⟨u, T2, rfl, hu, h2⟩ := map_cons h1
    have hku : u.kind = 7 := congrArg Prod.fst hu
    have hlen : T2.length < f := by
      have a1 := congrArg List.length h
      have a2 := congrArg List.length h2
      have a3 : 4 ≤ (tokR x).length := by
        unfold tokR tokH tokA
        cases x.dflt <;> cases x.drop <;> simp <;> omega
      rw [e] at a3
      simp only [List.length_map, List.length_cons, List.length_append] at a1 a2 a3 hf
      omega
    obtain ⟨l', e2, hl'⟩ := rows_ok E l f (had ++ [x']) T2 hlen (by simp at h64 ⊢; omega) (fun y hy => hok y (by simp [hy])) h2
    refine ⟨x' :: l', ?_, by rw [List.map_cons, List.map_cons, hx', hl']⟩
    rw [takeL, if_neg hk, if_neg (by simp at h64; omega), e1]
    simp only [Except.bind]
    rw [takeL, if_pos hku, e2, List.append_assoc]; rfl
/-- WHAT IS PRINTED IS PARSED AGAIN AS THE SAME, BUT FOR PLACES. -/
theorem parse_print (l : List Raw) (h : ∀ x ∈ l, okR x) (h64 : l.length ≤ 64) (hlen : (printT l).length ≤ 4096) : ∃ l', parseT (printT l) = .ok l' ∧ l'.map clR = l.map clR := by
  obtain ⟨T, h1, h2⟩ := lex_print l h
  obtain ⟨l', e, hl'⟩ := rows_ok (printT l).length l (T.length + 1) [] T (by omega) (by simpa using h64) h h1
  refine ⟨l', ?_, hl'⟩
  unfold parseT
  rw [if_neg (by omega), h2]
  exact e

/-! What is parsed is as it may be. -/
def okT (T : List Tok) : Prop := ∀ t ∈ T, t.num ≤ 4294967295
theorem okT_tail {t : Tok} {T : List Tok} (h : okT (t :: T)) : okT T := fun u hu => h u (by simp [hu])
theorem lexeme_num {c : UInt8} {r : List UInt8} {n k v : Nat} {t : List UInt8} (h : lexeme c r = (Lx.tok k t v, n)) : v ≤ 4294967295 := by
  unfold lexeme at h
  repeat' split at h
  all_goals simp only [Prod.mk.injEq, Except.ok.injEq, Option.some.injEq, reduceCtorEq, false_and] at h
  all_goals try omega
  rename_i m hm
  obtain ⟨⟨_, _, rfl⟩, _⟩ := h
  unfold numOf at hm
  split at hm
  · simp at hm
  · rename_i hc
    simp only [Bool.or_eq_true, decide_eq_true_eq, not_or] at hc
    have := Option.some.inj hm
    omega
theorem lexW_okT : ∀ (S : List UInt8) (p : Nat) (l : List Tok), lexW p S = .ok l → okT l := by
  refine lexW_induct _ (fun p l h => ?_) (fun p c r n hx ih l h => ?_) (fun p c r n k t v hx ih l h => ?_) (fun p c r n e hx l h => ?_)
  · rw [lexW_nil] at h
    obtain rfl : [] = l := Except.ok.inj h
    intro t ht; simp at ht
  · rw [lexW_none hx] at h; exact ih l h
  · rw [lexW_tok hx] at h
    cases hy : lexW (p + 1 + n) (r.drop n) with
    | error x => rw [hy] at h; simp [glue] at h
    | ok l' =>
      rw [hy] at h
      obtain rfl : ⟨k, p, t, v⟩ :: l' = l := by simpa [glue] using h
      intro u hu
      rcases List.mem_cons.1 hu with rfl | hu
      · exact lexeme_num hx
      · exact ih l' hy u hu
  · rw [lexW_err hx] at h; cases h

theorem bind_ok {α β : Type} {x : Res α} {f : α → Res β} {b : β} (h : x.bind f = .ok b) : ∃ a, x = .ok a ∧ f a = .ok b := by
  cases x with
  | error e => simp [Except.bind] at h
  | ok a => exact ⟨a, rfl, h⟩
theorem map_ok {α β : Type} {x : Res α} {f : α → β} {b : β} (h : x.map f = .ok b) : ∃ a, x = .ok a ∧ f a = b := by
  cases x with
  | error e => simp [Except.map] at h
  | ok a => exact ⟨a, rfl, Except.ok.inj h⟩
theorem takeK_in {E k : Nat} {T T' : List Tok} {t : Tok} (h : takeK E k T = .ok (t, T')) : T = t :: T' ∧ t.kind = k := by
  cases T with
  | nil => simp [takeK] at h
  | cons u T =>
    rw [takeK] at h
    split at h
    · rename_i hk
      obtain ⟨rfl, rfl⟩ := Prod.mk.inj (Except.ok.inj h)
      exact ⟨rfl, hk⟩
    · cases h
theorem takeF_in {E : Nat} {T T' : List Tok} {f : Fig} (h : takeF E T = .ok (f, T')) (hT : okT T) : okF f ∧ okT T' := by
  obtain ⟨⟨t, T1⟩, h1, h2⟩ := map_ok h
  obtain ⟨rfl, _⟩ := takeK_in h1
  obtain ⟨rfl, rfl⟩ := Prod.mk.inj h2
  have := hT t (by simp)
  exact ⟨⟨show (0 : Int) ≤ (t.num : Int) by omega, show ((t.num : Nat) : Int) ≤ 4294967295 by omega⟩, okT_tail hT⟩
theorem takeD_in {E : Nat} : ∀ {n : Nat} {T T' : List Tok} {l : List Fig}, takeD E n T = .ok (l, T') → okT T → (∀ x ∈ l, okF x) ∧ l.length = n ∧ okT T'
  | 0, T, T', l, h, hT => by
    obtain ⟨rfl, rfl⟩ := Prod.mk.inj (Except.ok.inj h)
    exact ⟨fun x hx => by simp at hx, rfl, hT⟩
  | n + 1, T, T', l, h, hT => by
    rw [takeD] at h
    obtain ⟨⟨t, T1⟩, h1, ha⟩ := bind_ok h
    obtain ⟨⟨f, T2⟩, h2, hb⟩ := bind_ok ha
    obtain ⟨⟨l2, T3⟩, h3, hc⟩ := map_ok hb
    obtain ⟨hTe, _⟩ := takeK_in h1
    rw [hTe] at hT
    obtain ⟨f1, g1⟩ := takeF_in h2 (okT_tail hT)
    obtain ⟨f2, f3, g2⟩ := takeD_in h3 g1
    obtain ⟨rfl, rfl⟩ := Prod.mk.inj hc
    refine ⟨fun x hx => ?_, by simp [f3], g2⟩
    rcases List.mem_cons.1 hx with rfl | hx
    · exact f1
    · exact f2 x hx
theorem takeO_in {E k : Nat} {T T' : List Tok} {o : Option Fig} (h : takeO E k T = .ok (o, T')) (hT : okT T) : (∀ x ∈ o.toList, okF x) ∧ okT T' := by
  cases T with
  | nil =>
    obtain ⟨rfl, rfl⟩ := Prod.mk.inj (Except.ok.inj h)
    exact ⟨fun x hx => by simp at hx, hT⟩
  | cons t T =>
    rw [takeO] at h
    split at h
    · obtain ⟨⟨f, T1⟩, h1, h2⟩ := map_ok h
      obtain ⟨f1, g1⟩ := takeF_in h1 (okT_tail hT)
      obtain ⟨rfl, rfl⟩ := Prod.mk.inj h2
      refine ⟨fun x hx => ?_, g1⟩
      obtain rfl : x = f := by simpa using hx
      exact f1
    · obtain ⟨rfl, rfl⟩ := Prod.mk.inj (Except.ok.inj h)
      exact ⟨fun x hx => by simp at hx, hT⟩
theorem optLen (o : Option Fig) : o.toList.length = if o.isSome then 1 else 0 := by cases o <;> rfl
theorem takeC_in {E : Nat} {had : List Cla} {t : Tok} {T T' : List Tok} {c : Cla} (h : takeC E had t T = .ok (c, T')) (hT : okT T) : okC c ∧ c.word = t.text ∧ (∀ d ∈ had, d.word ≠ c.word) ∧ okT T' := by
  unfold takeC at h
  split at h
  · cases h
  rename_i hw
  split at h
  · cases h
  rename_i hany
  obtain ⟨⟨f, T1⟩, h1, h⟩ := bind_ok h
  obtain ⟨f1, g1⟩ := takeF_in h1 hT
  have hhad : ∀ d ∈ had, d.word ≠ t.text := fun d hd e => hany (by rw [List.any_eq_true]; exact ⟨d, hd, by simp [e]⟩)
  simp only at h
  split at h
  · rename_i ha
    obtain ⟨⟨l, T2⟩, h2, h⟩ := bind_ok h
    obtain ⟨⟨o, T3⟩, h3, h⟩ := map_ok h
    obtain ⟨f2, f3, g2⟩ := takeD_in h2 g1
    obtain ⟨f4, g3⟩ := takeO_in h3 g2
    obtain ⟨rfl, rfl⟩ := Prod.mk.inj h
    refine ⟨⟨fun x hx => ?_, .inl ⟨ha, rfl, ?_⟩⟩, rfl, hhad, g3⟩
    · rcases List.mem_append.1 hx with hx | hx
      · rcases List.mem_cons.1 hx with rfl | hx
        · exact f1
        · exact f2 x hx
      · exact f4 x hx
    · simp only [List.length_append, List.length_cons, f3, optLen]
      cases o <;> rfl
  · rename_i ha
    split at h
    · rename_i hp
      obtain ⟨⟨o, T3⟩, h3, h⟩ := map_ok h
      obtain ⟨f4, g3⟩ := takeO_in h3 g1
      obtain ⟨rfl, rfl⟩ := Prod.mk.inj h
      refine ⟨⟨fun x hx => ?_, .inr (.inl ⟨hp, by simpa using ha, rfl, ?_⟩)⟩, rfl, hhad, g3⟩
      · rcases List.mem_cons.1 hx with rfl | hx
        · exact f1
        · exact f4 x hx
      · simp only [List.length_cons, optLen]
        cases o <;> rfl
    · rename_i hp
      obtain ⟨rfl, rfl⟩ := Prod.mk.inj (Except.ok.inj h)
      refine ⟨⟨fun x hx => ?_, .inr (.inr ⟨?_, rfl, rfl, rfl⟩)⟩, rfl, hhad, g1⟩
      · rw [List.mem_singleton.1 hx]; exact f1
      · simp only [Bool.and_eq_true, Bool.not_eq_true'] at hw
        have ha' : isAddrW t.text = false := by simpa using ha
        have hp' : isPortW t.text = false := by simpa using hp
        cases e : (t.text == wProto) with
        | true => simpa using e
        | false => exact absurd ⟨⟨ha', hp'⟩, e⟩ hw
theorem takeCs_in {E : Nat} : ∀ {f : Nat} {had : List Cla} {T T' : List Tok} {l : List Cla}, takeCs E f had T = .ok (l, T') → okT T → (∀ c ∈ had, okC c) → had.Pairwise (fun a b => a.word ≠ b.word) → (∀ c ∈ l, okC c) ∧ l.Pairwise (fun a b => a.word ≠ b.word) ∧ okT T'
  | 0, had, T, T', l, h, hT, h1, h2 => by
    obtain ⟨rfl, rfl⟩ := Prod.mk.inj (Except.ok.inj h)
    exact ⟨h1, h2, hT⟩
  | f + 1, had, [], T', l, h, hT, h1, h2 => by
    obtain ⟨rfl, rfl⟩ := Prod.mk.inj (Except.ok.inj h)
    exact ⟨h1, h2, hT⟩
  | f + 1, had, t :: T, T', l, h, hT, h1, h2 => by
    rw [takeCs] at h
    split at h
    · obtain ⟨⟨c, T1⟩, h3, h⟩ := bind_ok h
      obtain ⟨g1, _, g3, g4⟩ := takeC_in h3 (okT_tail hT)
      refine takeCs_in h g4 (fun d hd => ?_) ?_
      · rcases List.mem_append.1 hd with hd | hd
        · exact h1 d hd
        · rw [List.mem_singleton.1 hd]; exact g1
      · rw [List.pairwise_append]
        exact ⟨h2, List.pairwise_singleton _ _, fun a ha b hb => by rw [List.mem_singleton.1 hb]; exact g3 a ha⟩
    · obtain ⟨rfl, rfl⟩ := Prod.mk.inj (Except.ok.inj h)
      exact ⟨h1, h2, hT⟩
theorem okF0 : okF ⟨0, 0⟩ := ⟨by decide, by decide⟩
theorem takeR_in {E : Nat} {T T' : List Tok} {x : Raw} (h : takeR E T = .ok (x, T')) (hT : okT T) : okR x ∧ okT T' := by
  unfold takeR at h
  obtain ⟨⟨⟨d, p, cs⟩, T1⟩, h1, ha⟩ := bind_ok h
  obtain ⟨⟨t, T2⟩, h2, hb⟩ := bind_ok ha
  obtain ⟨⟨⟨dr, po⟩, T3⟩, h3, hc⟩ := bind_ok hb
  obtain ⟨T4, h4, hd⟩ := map_ok hc
  obtain ⟨rfl, rfl⟩ := Prod.mk.inj hd
  clear h ha hb hc hd
  have hH : okF p ∧ (∀ c ∈ cs, okC c) ∧ cs.Pairwise (fun a b => a.word ≠ b.word) ∧ (d = true → cs = [] ∧ p.n = 0) ∧ okT T1 := by
    cases T with
    | nil => simp [takeH] at h1
    | cons u T =>
      rw [takeH] at h1
      split at h1
      · obtain ⟨e1, rfl⟩ := Prod.mk.inj (Except.ok.inj h1)
        obtain ⟨rfl, e2⟩ := Prod.mk.inj e1
        obtain ⟨rfl, rfl⟩ := Prod.mk.inj e2
        exact ⟨okF0, fun c hc => by simp at hc, List.Pairwise.nil, fun _ => ⟨rfl, rfl⟩, okT_tail hT⟩
      · obtain ⟨⟨f, T5⟩, h5, h7⟩ := bind_ok h1
        obtain ⟨⟨l, T6⟩, h6, h8⟩ := map_ok h7
        obtain ⟨e1, rfl⟩ := Prod.mk.inj h8
        obtain ⟨rfl, e2⟩ := Prod.mk.inj e1
        obtain ⟨rfl, rfl⟩ := Prod.mk.inj e2
        obtain ⟨f1, g1⟩ := takeF_in h5 hT
        obtain ⟨f2, f3, g2⟩ := takeCs_in h6 g1 (fun c hc => by simp at hc) List.Pairwise.nil
        exact ⟨f1, f2, f3, (fun hd => by cases hd), g2⟩
  obtain ⟨p1, p2, p3, p4, p5⟩ := hH
  obtain ⟨rfl, _⟩ := takeK_in h2
  have hA : okF po ∧ (dr = true → po.n = 0) ∧ okT T3 := by
    have hT2 := okT_tail p5
    cases T2 with
    | nil => simp [takeA] at h3
    | cons u T2 =>
      rw [takeA] at h3
      split at h3
      · obtain ⟨e1, rfl⟩ := Prod.mk.inj (Except.ok.inj h3)
        obtain ⟨rfl, rfl⟩ := Prod.mk.inj e1
        exact ⟨okF0, fun _ => rfl, okT_tail hT2⟩
      · split at h3
        · obtain ⟨⟨f, T5⟩, h5, h7⟩ := map_ok h3
          obtain ⟨e1, rfl⟩ := Prod.mk.inj h7
          obtain ⟨rfl, rfl⟩ := Prod.mk.inj e1
          obtain ⟨f1, g1⟩ := takeF_in h5 (okT_tail hT2)
          exact ⟨f1, (fun hd => by cases hd), g1⟩
        · cases h3
  obtain ⟨q1, q2, q3⟩ := hA
  have hE : okT T4 := by
    cases T3 with
    | nil => obtain rfl : [] = T4 := Except.ok.inj h4; exact q3
    | cons u T3 =>
      rw [takeE] at h4
      split at h4
      · obtain rfl : u :: T3 = T4 := Except.ok.inj h4; exact q3
      · cases h4
  exact ⟨⟨p1, q1, p2, p3, p4, q2⟩, hE⟩
theorem takeL_in {E : Nat} : ∀ {f : Nat} {had : List Raw} {T : List Tok} {l : List Raw}, takeL E f had T = .ok l → okT T → (∀ x ∈ had, okR x) → had.length ≤ 64 → (∀ x ∈ l, okR x) ∧ l.length ≤ 64
  | 0, had, T, l, h, _, h1, h2 => by
    obtain rfl : had = l := Except.ok.inj h
    exact ⟨h1, h2⟩
  | f + 1, had, [], l, h, _, h1, h2 => by
    obtain rfl : had = l := Except.ok.inj h
    exact ⟨h1, h2⟩
  | f + 1, had, t :: T, l, h, hT, h1, h2 => by
    rw [takeL] at h
    split at h
    · exact takeL_in h (okT_tail hT) h1 h2
    · split at h
      · cases h
      · rename_i h64
        obtain ⟨⟨x, T1⟩, h3, h⟩ := bind_ok h
        obtain ⟨g1, g2⟩ := takeR_in h3 hT
        refine takeL_in h g2 (fun y hy => ?_) (by simp; omega)
        rcases List.mem_append.1 hy with hy | hy
        · exact h1 y hy
        · rw [List.mem_singleton.1 hy]; exact g1
theorem parseT_in {S : List UInt8} {l : List Raw} (h : parseT S = .ok l) : (∀ x ∈ l, okR x) ∧ l.length ≤ 64 := by
  unfold parseT at h
  split at h
  · cases h
  · cases hx : lexW 0 S with
    | error e => rw [hx] at h; cases h
    | ok T =>
      rw [hx] at h
      exact takeL_in h (lexW_okT S 0 T hx) (fun x hx => by simp at hx) (Nat.zero_le _)
/-- Prints do not tell places. -/
theorem numsP_same (s : UInt8) : ∀ l l' : List Fig, l.map (·.n) = l'.map (·.n) → numsP s l = numsP s l'
  | [], [], _ => rfl
  | [], _ :: _, h => by simp at h
  | _ :: _, [], h => by simp at h
  | [x], [y], h => by simp only [List.map_cons, List.cons.injEq] at h; rw [numsP, numsP, h.1]
  | [x], y :: z :: l, h => by simp at h
  | x :: z :: l, [y], h => by simp at h
  | x :: z :: l, x' :: z' :: l', h => by
    rw [List.map_cons, List.map_cons (a := x')] at h
    obtain ⟨h1, h2⟩ := List.cons.inj h
    rw [numsP, numsP, h1, numsP_same s (z :: l) (z' :: l') h2]
theorem claP_same {c c' : Cla} (h : clC c = clC c') : claP c = claP c' := by
  unfold clC at h
  simp only [Prod.mk.injEq] at h
  obtain ⟨h1, h2, h3, h4⟩ := h
  have hl : lastSign c = lastSign c' := by unfold lastSign; rw [h3, h4]
  have hn : numsAll c = numsAll c' := by
    unfold numsAll
    rw [hl]
    cases hn : c.nums with
    | nil =>
      rw [hn] at h2
      have : c'.nums = [] := by simpa using h2.symm
      rw [this]
    | cons x l =>
      rw [hn] at h2
      cases hn' : c'.nums with
      | nil => rw [hn'] at h2; simp at h2
      | cons y l' =>
        rw [hn', List.map_cons, List.map_cons] at h2
        obtain ⟨g1, g2⟩ := List.cons.inj h2
        show decI x.n ++ _ = decI y.n ++ _
        rw [g1, numsP_same _ l l' g2]
  unfold claP
  rw [h1, hn]
theorem clas_same : ∀ l l' : List Cla, l.map clC = l'.map clC → l.flatMap claP = l'.flatMap claP
  | [], [], _ => rfl
  | [], _ :: _, h => by simp at h
  | _ :: _, [], h => by simp at h
  | c :: l, c' :: l', h => by
    rw [List.map_cons, List.map_cons] at h
    obtain ⟨h1, h2⟩ := List.cons.inj h
    rw [List.flatMap_cons, List.flatMap_cons, claP_same h1, clas_same l l' h2]
theorem print_same : ∀ l l' : List Raw, l.map clR = l'.map clR → printT l = printT l'
  | [], [], _ => rfl
  | [], _ :: _, h => by simp at h
  | _ :: _, [], h => by simp at h
  | x :: l, x' :: l', h => by
    rw [List.map_cons, List.map_cons] at h
    obtain ⟨h1, h2⟩ := List.cons.inj h
    have ih := print_same l l' h2
    unfold printT at ih ⊢
    rw [List.flatMap_cons, List.flatMap_cons, ih]
    congr 1
    unfold clR at h1
    simp only [Prod.mk.injEq] at h1
    obtain ⟨g1, g2, g3, g4, g5⟩ := h1
    unfold rowP headP actP
    rw [g1, g2, g4, g5, clas_same _ _ g3]
/-- WHAT IS PARSED IS, PRINTED AND PARSED AGAIN, THE SAME BUT FOR PLACES. -/
theorem parse_back {S : List UInt8} {l : List Raw} (h : parseT S = .ok l) (hlen : (printT l).length ≤ 4096) : ∃ l', parseT (printT l) = .ok l' ∧ l'.map clR = l.map clR ∧ printT l' = printT l := by
  obtain ⟨h1, h2⟩ := parseT_in h
  obtain ⟨l', h3, h4⟩ := parse_print l h1 h2 hlen
  exact ⟨l', h3, h4, print_same _ _ h4⟩
end Go.Proofs.Ytbhnjhiecoapbaa
