import Derived.Test.YtnbklmmampdbfaaDoorJ1
import Derived.StillTail
import Derived.Laws.BitsLemmas
namespace Go.Proofs.YtnbklmmampdbfaaDoor
open Go
set_option maxRecDepth 20000

/-- A clause as it may be. -/
def okC (c : Cla) : Prop := (∀ x ∈ c.nums, okF x) ∧
  ((isAddrW c.word = true ∧ c.dash = false ∧ c.nums.length = if c.slash then 5 else 4) ∨ (isPortW c.word = true ∧ isAddrW c.word = false ∧ c.slash = false ∧ c.nums.length = if c.dash then 2 else 1) ∨
    (c.word = wProto ∧ c.slash = false ∧ c.dash = false ∧ c.nums.length = 1))
/-- A line as it may be. -/
structure okR (x : Raw) : Prop where
  prio : okF x.prio
  port : okF x.port
  clauses : ∀ c ∈ x.clauses, okC c
  apart : x.clauses.Pairwise fun a b => a.word ≠ b.word
  dflt : x.dflt = true → x.clauses = [] ∧ x.prio.n = 0
  drop : x.drop = true → x.port.n = 0

def tokC (c : Cla) : List St := (1, c.word, 0) :: (match c.nums with | [] => [] | x :: l => (2, [], x.n.toNat) :: numsT (lastSign c) l)
def tokH (x : Raw) : List St := if x.dflt then [(1, wDefault, 0)] else (2, [], x.prio.n.toNat) :: x.clauses.flatMap tokC
def tokA (x : Raw) : List St := if x.drop then [(1, wDrop, 0)] else [(1, wPort, 0), (2, [], x.port.n.toNat)]
def tokR (x : Raw) : List St := tokH x ++ ([(6, [], 0)] ++ (tokA x ++ [(7, [], 0)]))

theorem word_let {c : Cla} (h : okC c) : (∀ b ∈ c.word, isLet b = true) ∧ c.word ≠ [] := by
  have hw : c.word = wSrc ∨ c.word = wDst ∨ c.word = wSport ∨ c.word = wDport ∨ c.word = wProto := by
    rcases h.2 with ⟨h1, _⟩ | ⟨h1, _⟩ | ⟨h1, _⟩
    · unfold isAddrW at h1; simp only [Bool.or_eq_true, beq_iff_eq] at h1; rcases h1 with h1 | h1 <;> simp [h1]
    · unfold isPortW at h1; simp only [Bool.or_eq_true, beq_iff_eq] at h1; rcases h1 with h1 | h1 <;> simp [h1]
    · simp [h1]
  rcases hw with e | e | e | e | e <;> rw [e] <;> exact ⟨by decide, by decide⟩
theorem lx_cla (c : Cla) (h : okC c) : Lexes (claP c) (tokC c) sepY := by
  obtain ⟨h1, h2⟩ := word_let h
  have hnum : Lexes (numsAll c) (match c.nums with | [] => [] | x :: l => (2, [], x.n.toNat) :: numsT (lastSign c) l) sepY := by
    unfold numsAll
    cases hn : c.nums with
    | nil => exact Lexes.nil _
    | cons x l =>
      have hx : ∀ y ∈ x :: l, okF y := by rw [← hn]; exact h.1
      exact (lx_fig x (hx x (by simp))).append (lx_nums _ (lastSign_ok c) l fun y hy => hx y (by simp [hy])) (fun Y hY => numsP_sep _ (lastSign_ok c) l Y hY)
  have hb : Lexes (32 :: numsAll c) _ sepY := lx_blank.append hnum (fun _ _ => trivial)
  have hw : Lexes (c.word ++ (32 :: numsAll c)) _ sepY := (lx_word c.word h1 h2).append hb (fun Y _ => sep_cons (by decide) _)
  exact lx_blank.append hw (fun _ _ => trivial)
theorem lx_clas : ∀ l : List Cla, (∀ c ∈ l, okC c) → Lexes (l.flatMap claP) (l.flatMap tokC) sepY
  | [], _ => Lexes.nil _
  | c :: l, h => by
    rw [List.flatMap_cons, List.flatMap_cons]
    refine (lx_cla c (h c (by simp))).append (lx_clas l fun d hd => h d (by simp [hd])) (fun Y hY => ?_)
    cases l with
    | nil => exact hY
    | cons d l => rw [List.flatMap_cons]; exact sep_cons (by decide) _
theorem clas_sep (l : List Cla) (Y : List UInt8) (hY : sepY Y) : sepY (l.flatMap claP ++ Y) := by
  cases l with
  | nil => exact hY
  | cons d l => rw [List.flatMap_cons]; exact sep_cons (by decide) _
theorem lx_row (x : Raw) (h : okR x) : Lexes (rowP x) (tokR x) Any := by
  have hh : Lexes (headP x) (tokH x) sepY := by
    unfold headP tokH
    cases hd : x.dflt with
    | true =>
      rw [(h.dflt hd).1, if_pos rfl, if_pos rfl, List.flatMap_nil, List.append_nil]
      exact lx_word wDefault (by decide) (by decide)
    | false =>
      rw [if_neg (by decide), if_neg (by decide)]
      exact (lx_fig x.prio h.prio).append (lx_clas x.clauses h.clauses) (fun Y hY => clas_sep _ Y hY)
  have ha : Lexes (actP x ++ [10]) (tokA x ++ [(7, [], 0)]) Any := by
    unfold actP tokA
    cases hd : x.drop with
    | true => exact (lx_word wDrop (by decide) (by decide)).append lx_line (fun Y _ => sep_cons (by decide) _)
    | false =>
      have h1 := lx_blank.append (lx_fig x.port h.port) (fun _ _ => trivial)
      have h2 := (lx_word wPort (by decide) (by decide)).append h1 (fun Y _ => sep_cons (by decide) _)
      exact h2.append lx_line (fun Y _ => sep_cons (by decide) _)
  have hm : Lexes [32, 45, 62, 32] [(6, [], 0)] Any := (lx_blank.append lx_arrow (fun _ _ => trivial)).append lx_blank (fun _ _ => trivial)
  exact hh.append (hm.append ha (fun _ _ => trivial)) (fun Y _ => sep_cons (by decide) _)
theorem lx_print : ∀ l : List Raw, (∀ x ∈ l, okR x) → Lexes (printT l) (l.flatMap tokR) Any
  | [], _ => Lexes.nil _
  | x :: l, h => by
    unfold printT
    rw [List.flatMap_cons, List.flatMap_cons]
    exact (lx_row x (h x (by simp))).append (lx_print l fun y hy => h y (by simp [hy])) (fun _ _ => trivial)
/-- WHAT IS PRINTED COMES TO ITS TOKENS. -/
theorem lex_print (l : List Raw) (h : ∀ x ∈ l, okR x) : ∃ T, T.map st = l.flatMap tokR ∧ lexW 0 (printT l) = .ok T := by
  obtain ⟨T, h1, h2⟩ := lx_print l h 0 [] trivial
  rw [List.append_nil, lexW_nil] at h2
  exact ⟨T, h1, by rw [h2]; simp [glue]⟩

/-! The tokens of a line, parsed. -/
def clC (c : Cla) : List UInt8 × List Int × Bool × Bool := (c.word, c.nums.map (·.n), c.slash, c.dash)
def clR (x : Raw) : Bool × Int × List (List UInt8 × List Int × Bool × Bool) × Bool × Int := (x.dflt, x.prio.n, x.clauses.map clC, x.drop, x.port.n)

theorem map_cons {T : List Tok} {a : St} {b : List St} (h : T.map st = a :: b) : ∃ t T', T = t :: T' ∧ st t = a ∧ T'.map st = b := by
  cases T with
  | nil => simp at h
  | cons t T' =>
    rw [List.map_cons] at h
    exact ⟨t, T', rfl, (List.cons.inj h).1, (List.cons.inj h).2⟩
theorem takeK_ok (E k : Nat) {T : List Tok} {w : List UInt8} {v : Nat} {b : List St} (h : T.map st = (k, w, v) :: b) : ∃ t T', takeK E k T = .ok (t, T') ∧ st t = (k, w, v) ∧ T'.map st = b := by
  obtain ⟨t, T', rfl, h1, h2⟩ := map_cons h
  refine ⟨t, T', ?_, h1, h2⟩
  have : t.kind = k := congrArg Prod.fst h1
  rw [takeK, if_pos this]
theorem takeF_ok (E : Nat) {T : List Tok} {x : Int} {b : List St} (hx : 0 ≤ x) (h : T.map st = (2, [], x.toNat) :: b) : ∃ f T', takeF E T = .ok (f, T') ∧ f.n = x ∧ T'.map st = b := by
  obtain ⟨t, T', h1, h2, h3⟩ := takeK_ok E 2 h
  refine ⟨⟨(t.num : Int), (t.pos : Int)⟩, T', by unfold takeF; rw [h1]; rfl, ?_, h3⟩
  have : t.num = x.toNat := congrArg (fun s => s.2.2) h2
  show (t.num : Int) = x
  omega
theorem takeD_ok (E : Nat) : ∀ (n : Nat) (l : List Fig) (T : List Tok) (b : List St), l.length = n → (∀ x ∈ l, okF x) → T.map st = numsT 46 l ++ b → ∃ l' T', takeD E n T = .ok (l', T') ∧ l'.map (·.n) = l.map (·.n) ∧ T'.map st = b
  | 0, l, T, b, hl, _, h => by
    obtain rfl : l = [] := List.eq_nil_of_length_eq_zero hl
    exact ⟨[], T, rfl, rfl, h⟩
  | n + 1, [], T, b, hl, _, _ => by simp at hl
  | n + 1, x :: l, T, b, hl, hx, h => by
    have h' : T.map st = (3, [], 0) :: (2, [], x.n.toNat) :: (numsT 46 l ++ b) := by
      cases l with
      | nil => exact h
      | cons y l => exact h
    obtain ⟨t, T1, e1, _, h1⟩ := takeK_ok E 3 h'
    obtain ⟨f, T2, e2, hf, h2⟩ := takeF_ok E (hx x (by simp)).1 h1
    obtain ⟨l', T3, e3, hl', h3⟩ := takeD_ok E n l T2 b (by simpa using hl) (fun y hy => hx y (by simp [hy])) h2
    refine ⟨f :: l', T3, ?_, by rw [List.map_cons, List.map_cons, hf, hl'], h3⟩
    rw [takeD, e1]
    simp [Except.bind, Except.map, e2, e3]
theorem numsT_split (s : UInt8) : ∀ (l : List Fig) (x : Fig), numsT s (l ++ [x]) = numsT 46 l ++ [signT s, (2, [], x.n.toNat)]
  | [], x => rfl
  | [y], x => rfl
  | y :: z :: l, x => by
    have := numsT_split s (z :: l) x
    rw [List.cons_append, List.cons_append] at *
    simp only [numsT, List.cons_append, this]
/-- No sign of a kind at hand. -/
def notK (k : Nat) (b : List St) : Prop := ∀ s, b.head? = some s → s.1 ≠ k
theorem takeO_no (E k : Nat) {T : List Tok} {b : List St} (h : T.map st = b) (hb : notK k b) : takeO E k T = .ok (none, T) := by
  cases T with
  | nil => rfl
  | cons t T =>
    rw [takeO, if_neg]
    intro hk
    refine hb (st t) ?_ hk
    rw [← h]; rfl
theorem takeO_yes (E k : Nat) {T : List Tok} {x : Int} {b : List St} (hx : 0 ≤ x) (h : T.map st = (k, [], 0) :: (2, [], x.toNat) :: b) : ∃ f T', takeO E k T = .ok (some f, T') ∧ f.n = x ∧ T'.map st = b := by
  obtain ⟨t, T1, rfl, h1, h2⟩ := map_cons h
  obtain ⟨f, T2, e2, hf, h3⟩ := takeF_ok E hx h2
  refine ⟨f, T2, ?_, hf, h3⟩
  have : t.kind = k := congrArg Prod.fst h1
  rw [takeO, if_pos this, e2]
  rfl

theorem proto_not : isAddrW wProto = false ∧ isPortW wProto = false := by decide
theorem claT_ok (E : Nat) (had : List Cla) (c : Cla) (hc : okC c) (hh : had.any (fun d => d.word == c.word) = false) {T : List Tok} {b : List St} (h : T.map st = tokC c ++ b) (h4 : notK 4 b) (h5 : notK 5 b) :
    ∃ t T0 c' T', T = t :: T0 ∧ t.kind = 1 ∧ takeC E had t T0 = .ok (c', T') ∧ clC c' = clC c ∧ T'.map st = b := by
  obtain ⟨t, T0, rfl, ht, h0⟩ := map_cons (show T.map st = (1, c.word, 0) :: _ from h)
  have hk : t.kind = 1 := congrArg Prod.fst ht
  have hw : t.text = c.word := congrArg (fun s => s.2.1) ht
  obtain ⟨hx, hcase⟩ := hc
  have hne : c.nums ≠ [] := by
    intro e
    rw [e] at hcase
    rcases hcase with ⟨_, _, hl⟩ | ⟨_, _, _, hl⟩ | ⟨_, _, _, hl⟩
    · split at hl <;> simp at hl
    · split at hl <;> simp at hl
    · simp at hl
  obtain ⟨n0, l, hn⟩ : ∃ n0 l, c.nums = n0 :: l := by
    cases e : c.nums with
    | nil => exact absurd e hne
    | cons n0 l => exact ⟨n0, l, rfl⟩
  rw [hn] at h0 hx hcase
  obtain ⟨f0, T1, e1, hf0, h1⟩ := takeF_ok E (hx n0 (by simp)).1 (show T0.map st = (2, [], n0.n.toNat) :: (numsT (lastSign c) l ++ b) from h0)
  refine ⟨t, T0, ?_⟩
  have hxl : ∀ y ∈ l, okF y := fun y hy => hx y (by simp [hy])
  rcases hcase with ⟨ha, hd, hl⟩ | ⟨hp, ha, hs, hl⟩ | ⟨hpw, hs, hd, hl⟩
  · cases hsl : c.slash with
    | false =>
      rw [hsl] at hl
      have hls : lastSign c = 46 := by unfold lastSign; rw [hsl, hd]; rfl
      rw [hls] at h1
      obtain ⟨l', T2, e2, hl', h2⟩ := takeD_ok E 3 l T1 b (by simpa using hl) hxl h1
      have e3 := takeO_no E 4 h2 h4
      refine ⟨⟨t.text, (t.pos : Int), f0 :: l' ++ (none : Option Fig).toList, (none : Option Fig).isSome, false⟩, T2, rfl, hk, ?_, ?_, h2⟩
      · unfold takeC
        rw [hw, ha, hh, if_neg (by simp), if_neg (by simp), e1]
        simp [Except.bind, Except.map, e2, e3]
      · simp [clC, hw, hn, hf0, hl', hsl, hd]
    | true =>
      rw [hsl] at hl
      have hls : lastSign c = 47 := by unfold lastSign; rw [hsl]; rfl
      obtain ⟨l3, x, rfl⟩ : ∃ l3 x, l = l3 ++ [x] := by
        have hne2 : l ≠ [] := by intro e; rw [e] at hl; simp at hl
        exact ⟨l.dropLast, l.getLast hne2, (List.dropLast_concat_getLast hne2).symm⟩
      rw [hls, numsT_split, List.append_assoc] at h1
      obtain ⟨l', T2, e2, hl', h2⟩ := takeD_ok E 3 l3 T1 _ (by simp at hl; omega) (fun y hy => hxl y (by simp [hy])) h1
      obtain ⟨f1, T3, e3, hf1, h3⟩ := takeO_yes E 4 (hxl x (by simp)).1 (show T2.map st = (4, [], 0) :: (2, [], x.n.toNat) :: b from h2)
      refine ⟨⟨t.text, (t.pos : Int), f0 :: l' ++ (some f1).toList, (some f1).isSome, false⟩, T3, rfl, hk, ?_, ?_, h3⟩
      · unfold takeC
        rw [hw, ha, hh, if_neg (by simp), if_neg (by simp), e1]
        simp [Except.bind, Except.map, e2, e3]
      · simp [clC, hw, hn, hf0, hl', hsl, hd, hf1]
  · cases hda : c.dash with
    | false =>
      rw [hda] at hl
      obtain rfl : l = [] := by simpa using hl
      have e3 := takeO_no E 5 (show T1.map st = b from h1) h5
      refine ⟨⟨t.text, (t.pos : Int), f0 :: (none : Option Fig).toList, false, (none : Option Fig).isSome⟩, T1, rfl, hk, ?_, ?_, h1⟩
      · unfold takeC
        rw [hw, ha, hp, hh, if_neg (by simp), if_neg (by simp), e1]
        simp [Except.bind, Except.map, e3]
      · simp [clC, hw, hn, hf0, hs, hda]
    | true =>
      rw [hda] at hl
      obtain ⟨x, rfl⟩ : ∃ x, l = [x] := List.length_eq_one_iff.1 (by simpa using hl)
      have hls : lastSign c = 45 := by unfold lastSign; rw [hs, hda]; rfl
      rw [hls] at h1
      obtain ⟨f1, T3, e3, hf1, h3⟩ := takeO_yes E 5 (hxl x (by simp)).1 (show T1.map st = (5, [], 0) :: (2, [], x.n.toNat) :: b from h1)
      refine ⟨⟨t.text, (t.pos : Int), f0 :: (some f1).toList, false, (some f1).isSome⟩, T3, rfl, hk, ?_, ?_, h3⟩
      · unfold takeC
        rw [hw, ha, hp, hh, if_neg (by simp), if_neg (by simp), e1]
        simp [Except.bind, Except.map, e3]
      · simp [clC, hw, hn, hf0, hs, hda, hf1]
  · obtain rfl : l = [] := by simpa using hl
    refine ⟨⟨t.text, (t.pos : Int), [f0], false, false⟩, T1, rfl, hk, ?_, ?_, h1⟩
    · unfold takeC
      rw [hw, hpw, proto_not.1, proto_not.2]
      rw [hpw] at hh
      rw [hh, if_neg (by simp), if_neg (by simp), e1]
      simp [Except.bind]
    · simp [clC, hw, hn, hf0, hs, hd]

theorem clas_ok (E : Nat) : ∀ (l : List Cla) (f : Nat) (had : List Cla) (T : List Tok) (b : List St), l.length ≤ f → (∀ c ∈ l, okC c) → l.Pairwise (fun a b => a.word ≠ b.word) → (∀ d ∈ had, ∀ c ∈ l, d.word ≠ c.word) → T.map st = l.flatMap tokC ++ b → notK 1 b → notK 4 b → notK 5 b →
    ∃ l' T', takeCs E f had T = .ok (had ++ l', T') ∧ l'.map clC = l.map clC ∧ T'.map st = b
  | [], f, had, T, b, _, _, _, _, h, h1, _, _ => by
    refine ⟨[], T, ?_, rfl, h⟩
    rw [List.append_nil]
    cases f with
    | zero => rfl
    | succ f =>
      cases T with
      | nil => rfl
      | cons t T =>
        rw [takeCs, if_neg]
        intro hk
        exact h1 (st t) (by rw [← show (t :: T).map st = b from h]; rfl) hk
  | c :: l, 0, had, T, b, hf, _, _, _, _, _, _, _ => by simp at hf
  | c :: l, f + 1, had, T, b, hf, hok, hpw, hhad, h, h1, h4, h5 => by
    rw [List.flatMap_cons, List.append_assoc] at h
    have nk : ∀ k, k ≠ 1 → notK k b → notK k (l.flatMap tokC ++ b) := fun k hk1 hb => by
      cases l with
      | nil => exact hb
      | cons d l =>
        intro s hs
        obtain rfl : (1, d.word, 0) = s := by simpa [tokC] using hs
        exact fun e => hk1 e.symm
    have hany : had.any (fun d => d.word == c.word) = false := by
      rw [List.any_eq_false]
      intro d hd
      have := hhad d hd c (by simp)
      simpa using this
    obtain ⟨t, T0, c', T', rfl, hk, e1, hc', h2⟩ := claT_ok E had c (hok c (by simp)) hany h (nk 4 (by decide) h4) (nk 5 (by decide) h5)
    rw [List.pairwise_cons] at hpw
    have hw : c'.word = c.word := congrArg Prod.fst hc'
    obtain ⟨l', T2, e2, hl', h3⟩ := clas_ok E l f (had ++ [c']) T' b (by simpa using hf) (fun d hd => hok d (by simp [hd])) hpw.2 (fun d hd e he => by
      rcases List.mem_append.1 hd with hd | hd
      · exact hhad d hd e (by simp [he])
      · rw [List.mem_singleton.1 hd, hw]; exact hpw.1 e he) h2 h1 h4 h5
    refine ⟨c' :: l', T2, ?_, by rw [List.map_cons, List.map_cons, hc', hl'], h3⟩
    rw [takeCs, if_pos hk, e1]
    simp only [Except.bind]
    rw [e2, List.append_assoc]; rfl

theorem tok_len (c : Cla) : 1 ≤ (tokC c).length := by unfold tokC; simp
theorem toks_len (l : List Cla) : l.length ≤ (l.flatMap tokC).length := by
  induction l with
  | nil => exact Nat.le_refl _
  | cons c l ih =>
    have := tok_len c
    rw [List.flatMap_cons, List.length_append, List.length_cons]; omega
theorem rowT_ok (E : Nat) (x : Raw) (hx : okR x) {T : List Tok} {b : List St} (h : T.map st = tokR x ++ b) :
    ∃ x' T', takeR E T = .ok (x', T') ∧ clR x' = clR x ∧ T'.map st = (7, [], 0) :: b := by
  have hhead : ∀ b', T.map st = tokH x ++ (6, [], 0) :: b' → ∃ d p cs T1, takeH E T = .ok ((d, p, cs), T1) ∧ d = x.dflt ∧ p.n = x.prio.n ∧ cs.map clC = x.clauses.map clC ∧ T1.map st = (6, [], 0) :: b' := by
    intro b' hT
    unfold tokH at hT
    cases hd : x.dflt with
    | true =>
      rw [hd, if_pos rfl] at hT
      obtain ⟨t, T0, rfl, ht, h0⟩ := map_cons (show T.map st = (1, wDefault, 0) :: (6, [], 0) :: b' from hT)
      have hk : t.kind = 1 := congrArg Prod.fst ht
      have hw : t.text = wDefault := congrArg (fun s => s.2.1) ht
      refine ⟨true, ⟨0, 0⟩, [], T0, by rw [takeH, if_pos ⟨hk, hw⟩], rfl, (hx.dflt hd).2.symm, by rw [(hx.dflt hd).1], h0⟩
    | false =>
      rw [hd, if_neg (by decide)] at hT
      obtain ⟨f, T1, e1, hf, h1⟩ := takeF_ok E hx.prio.1 (show T.map st = (2, [], x.prio.n.toNat) :: (x.clauses.flatMap tokC ++ (6, [], 0) :: b') from hT)
      have hlen : x.clauses.length ≤ T1.length := by
        have h2 := congrArg List.length h1
        rw [List.length_map, List.length_append] at h2
        have := toks_len x.clauses
        omega
      have nk : ∀ k, k ≠ 6 → notK k ((6, [], 0) :: b') := fun k hk s hs => by
        obtain rfl : (6, [], 0) = s := by simpa using hs
        exact fun e => hk e.symm
      obtain ⟨l', T2, e2, hl', h2⟩ := clas_ok E x.clauses T1.length [] T1 _ hlen hx.clauses hx.apart (fun d hd => by simp at hd) h1 (nk 1 (by decide)) (nk 4 (by decide)) (nk 5 (by decide))
      cases T with
      | nil => simp at hT
      | cons t T0 =>
        have hk2 : t.kind = 2 := congrArg Prod.fst (List.cons.inj (show st t :: T0.map st = (2, [], x.prio.n.toNat) :: _ from hT)).1
        refine ⟨false, f, l', T2, ?_, rfl, hf, hl', h2⟩
        rw [takeH, if_neg (by rintro ⟨hk, _⟩; omega), e1]
        simp [Except.bind, Except.map, e2]
  have hact : ∀ {T2 : List Tok}, T2.map st = tokA x ++ (7, [], 0) :: b → ∃ d p T3, takeA E T2 = .ok ((d, p), T3) ∧ d = x.drop ∧ p.n = x.port.n ∧ T3.map st = (7, [], 0) :: b := by
    intro T2 hT
    unfold tokA at hT
    cases hd : x.drop with
    | true =>
      rw [hd, if_pos rfl] at hT
      obtain ⟨t, T0, rfl, ht, h0⟩ := map_cons (show T2.map st = (1, wDrop, 0) :: (7, [], 0) :: b from hT)
      have hk : t.kind = 1 := congrArg Prod.fst ht
      have hw : t.text = wDrop := congrArg (fun s => s.2.1) ht
      exact ⟨true, ⟨0, 0⟩, T0, by rw [takeA, if_pos ⟨hk, hw⟩], rfl, (hx.drop hd).symm, h0⟩
    | false =>
      rw [hd, if_neg (by decide)] at hT
      obtain ⟨t, T0, rfl, ht, h0⟩ := map_cons (show T2.map st = (1, wPort, 0) :: (2, [], x.port.n.toNat) :: (7, [], 0) :: b from hT)
      have hk : t.kind = 1 := congrArg Prod.fst ht
      have hw : t.text = wPort := congrArg (fun s => s.2.1) ht
      obtain ⟨f, T3, e3, hf, h3⟩ := takeF_ok E hx.port.1 h0
      refine ⟨false, f, T3, ?_, rfl, hf, h3⟩
      rw [takeA, if_neg (by rintro ⟨_, e⟩; rw [hw] at e; exact absurd e (by decide)), if_pos ⟨hk, hw⟩, e3]
      rfl
  have hT : T.map st = tokH x ++ (6, [], 0) :: (tokA x ++ (7, [], 0) :: b) := by
    rw [h]; simp [tokR]
  obtain ⟨d, p, cs, T1, e1, rfl, hp, hcs, h1⟩ := hhead _ hT
  obtain ⟨t, T2, e2, _, h2⟩ := takeK_ok E 6 h1
  obtain ⟨d2, p2, T3, e3, rfl, hp2, h3⟩ := hact h2
  have e4 : takeE T3 = .ok T3 := by
    obtain ⟨u, T4, rfl, hu, _⟩ := map_cons h3
    have hk : u.kind = 7 := congrArg Prod.fst hu
    rw [takeE, if_pos hk]
  refine ⟨⟨(posOf E T : Int), x.dflt, p, cs, x.drop, p2⟩, T3, ?_, by simp [clR, hp, hcs, hp2], h3⟩
  unfold takeR
  rw [e1]
  simp [Except.bind, Except.map, e2, e3, e4]
theorem tokR_head (x : Raw) : ∃ s r, tokR x = s :: r ∧ s.1 ≠ 7 := by
  unfold tokR tokH
  cases x.dflt
  · exact ⟨_, _, rfl, show (2 : Nat) ≠ 7 by decide⟩
  · exact ⟨_, _, rfl, show (1 : Nat) ≠ 7 by decide⟩
theorem rows_ok (E : Nat) : ∀ (l : List Raw) (f : Nat) (had : List Raw) (T : List Tok), T.length < f → had.length + l.length ≤ 64 → (∀ x ∈ l, okR x) → T.map st = l.flatMap tokR → ∃ l', takeL E f had T = .ok (had ++ l') ∧ l'.map clR = l.map clR
  | [], f, had, T, hf, _, _, h => by
    obtain rfl : T = [] := by simpa using h
    refine ⟨[], ?_, rfl⟩
    rw [List.append_nil]
    cases f with
    | zero => rfl
    | succ f => rfl
  | x :: l, 0, had, T, hf, _, _, _ => by omega
  | x :: l, 1, had, T, hf, _, _, h => by
    obtain rfl : T = [] := List.eq_nil_of_length_eq_zero (by omega)
    obtain ⟨s, r, e, _⟩ := tokR_head x
    rw [List.flatMap_cons, e] at h
    simp at h
  | x :: l, f + 2, had, T, hf, h64, hok, h => by
    rw [List.flatMap_cons] at h
    obtain ⟨x', T', e1, hx', h1⟩ := rowT_ok E x (hok x (by simp)) h
    obtain ⟨s, r, e, hs⟩ := tokR_head x
    rw [e, List.cons_append] at h
    obtain ⟨t, T0, rfl, ht, _⟩ := map_cons h
    have hk : t.kind ≠ 7 := by rw [show t.kind = s.1 from congrArg Prod.fst ht]; exact hs
    obtain ⟨u, T2, rfl, hu, h2⟩ := map_cons h1
    have hku : u.kind = 7 := congrArg Prod.fst hu
    have hlen : T2.length < f := by
      have a1 := congrArg List.length h
      have a2 := congrArg List.length h2
      have a3 : 4 ≤ (tokR x).length := by
        unfold tokR tokH tokA
        cases x.dflt <;> cases x.drop <;> simp <;> omega
      rw [e] at a3
      simp only [List.length_map, List.length_cons, List.length_append] at a1 a2 a3 hf
      omega
    obtain ⟨l', e2, hl'⟩ := rows_ok E l f (had ++ [x']) T2 hlen (by simp at h64 ⊢; omega) (fun y hy => hok y (by simp [hy])) h2
    refine ⟨x' :: l', ?_, by rw [List.map_cons, List.map_cons, hx', hl']⟩
    rw [takeL, if_neg hk, if_neg (by simp at h64; omega), e1]
    simp only [Except.bind]
    rw [takeL, if_pos hku, e2, List.append_assoc]; rfl
/-- WHAT IS PRINTED IS PARSED AGAIN AS THE SAME, BUT FOR PLACES. -/
theorem parse_print (l : List Raw) (h : ∀ x ∈ l, okR x) (h64 : l.length ≤ 64) (hlen : (printT l).length ≤ 4096) : ∃ l', parseT (printT l) = .ok l' ∧ l'.map clR = l.map clR := by
  obtain ⟨T, h1, h2⟩ := lex_print l h
  obtain ⟨l', e, hl'⟩ := rows_ok (printT l).length l (T.length + 1) [] T (by omega) (by simpa using h64) h h1
  refine ⟨l', ?_, hl'⟩
  unfold parseT
  rw [if_neg (by omega), h2]
  exact e

/-! What is parsed is as it may be. -/
def okT (T : List Tok) : Prop := ∀ t ∈ T, t.num ≤ 4294967295
theorem okT_tail {t : Tok} {T : List Tok} (h : okT (t :: T)) : okT T := fun u hu => h u (by simp [hu])
theorem lexeme_num {c : UInt8} {r : List UInt8} {n k v : Nat} {t : List UInt8} (h : lexeme c r = (Lx.tok k t v, n)) : v ≤ 4294967295 := by
  unfold lexeme at h
  repeat' split at h
  all_goals simp only [Prod.mk.injEq, Except.ok.injEq, Option.some.injEq, reduceCtorEq, false_and] at h
  all_goals try omega
  rename_i m hm
  obtain ⟨⟨_, _, rfl⟩, _⟩ := h
  unfold numOf at hm
  split at hm
  · simp at hm
  · rename_i hc
    simp only [Bool.or_eq_true, decide_eq_true_eq, not_or] at hc
    have := Option.some.inj hm
    omega
theorem lexW_okT : ∀ (S : List UInt8) (p : Nat) (l : List Tok), lexW p S = .ok l → okT l := by
  refine lexW_induct _ (fun p l h => ?_) (fun p c r n hx ih l h => ?_) (fun p c r n k t v hx ih l h => ?_) (fun p c r n e hx l h => ?_)
  · rw [lexW_nil] at h
    obtain rfl : [] = l := Except.ok.inj h
    intro t ht; simp at ht
  · rw [lexW_none hx] at h; exact ih l h
  · rw [lexW_tok hx] at h
    cases hy : lexW (p + 1 + n) (r.drop n) with
    | error x => rw [hy] at h; simp [glue] at h
    | ok l' =>
      rw [hy] at h
      obtain rfl : ⟨k, p, t, v⟩ :: l' = l := by simpa [glue] using h
      intro u hu
      rcases List.mem_cons.1 hu with rfl | hu
      · exact lexeme_num hx
      · exact ih l' hy u hu
  · rw [lexW_err hx] at h; cases h

theorem bind_ok {α β : Type} {x : Res α} {f : α → Res β} {b : β} (h : x.bind f = .ok b) : ∃ a, x = .ok a ∧ f a = .ok b := by
  cases x with
  | error e => simp [Except.bind] at h
  | ok a => exact ⟨a, rfl, h⟩
theorem map_ok {α β : Type} {x : Res α} {f : α → β} {b : β} (h : x.map f = .ok b) : ∃ a, x = .ok a ∧ f a = b := by
  cases x with
  | error e => simp [Except.map] at h
  | ok a => exact ⟨a, rfl, Except.ok.inj h⟩
theorem takeK_in {E k : Nat} {T T' : List Tok} {t : Tok} (h : takeK E k T = .ok (t, T')) : T = t :: T' ∧ t.kind = k := by
  cases T with
  | nil => simp [takeK] at h
  | cons u T =>
    rw [takeK] at h
    split at h
    · rename_i hk
      obtain ⟨rfl, rfl⟩ := Prod.mk.inj (Except.ok.inj h)
      exact ⟨rfl, hk⟩
    · cases h
theorem takeF_in {E : Nat} {T T' : List Tok} {f : Fig} (h : takeF E T = .ok (f, T')) (hT : okT T) : okF f ∧ okT T' := by
  obtain ⟨⟨t, T1⟩, h1, h2⟩ := map_ok h
  obtain ⟨rfl, _⟩ := takeK_in h1
  obtain ⟨rfl, rfl⟩ := Prod.mk.inj h2
  have := hT t (by simp)
  exact ⟨⟨show (0 : Int) ≤ (t.num : Int) by omega, show ((t.num : Nat) : Int) ≤ 4294967295 by omega⟩, okT_tail hT⟩
theorem takeD_in {E : Nat} : ∀ {n : Nat} {T T' : List Tok} {l : List Fig}, takeD E n T = .ok (l, T') → okT T → (∀ x ∈ l, okF x) ∧ l.length = n ∧ okT T'
  | 0, T, T', l, h, hT => by
    obtain ⟨rfl, rfl⟩ := Prod.mk.inj (Except.ok.inj h)
    exact ⟨fun x hx => by simp at hx, rfl, hT⟩
  | n + 1, T, T', l, h, hT => by
    rw [takeD] at h
    obtain ⟨⟨t, T1⟩, h1, ha⟩ := bind_ok h
    obtain ⟨⟨f, T2⟩, h2, hb⟩ := bind_ok ha
    obtain ⟨⟨l2, T3⟩, h3, hc⟩ := map_ok hb
    obtain ⟨hTe, _⟩ := takeK_in h1
    rw [hTe] at hT
    obtain ⟨f1, g1⟩ := takeF_in h2 (okT_tail hT)
    obtain ⟨f2, f3, g2⟩ := takeD_in h3 g1
    obtain ⟨rfl, rfl⟩ := Prod.mk.inj hc
    refine ⟨fun x hx => ?_, by simp [f3], g2⟩
    rcases List.mem_cons.1 hx with rfl | hx
    · exact f1
    · exact f2 x hx
theorem takeO_in {E k : Nat} {T T' : List Tok} {o : Option Fig} (h : takeO E k T = .ok (o, T')) (hT : okT T) : (∀ x ∈ o.toList, okF x) ∧ okT T' := by
  cases T with
  | nil =>
    obtain ⟨rfl, rfl⟩ := Prod.mk.inj (Except.ok.inj h)
    exact ⟨fun x hx => by simp at hx, hT⟩
  | cons t T =>
    rw [takeO] at h
    split at h
    · obtain ⟨⟨f, T1⟩, h1, h2⟩ := map_ok h
      obtain ⟨f1, g1⟩ := takeF_in h1 (okT_tail hT)
      obtain ⟨rfl, rfl⟩ := Prod.mk.inj h2
      refine ⟨fun x hx => ?_, g1⟩
      obtain rfl : x = f := by simpa using hx
      exact f1
    · obtain ⟨rfl, rfl⟩ := Prod.mk.inj (Except.ok.inj h)
      exact ⟨fun x hx => by simp at hx, hT⟩
theorem optLen (o : Option Fig) : o.toList.length = if o.isSome then 1 else 0 := by cases o <;> rfl
theorem takeC_in {E : Nat} {had : List Cla} {t : Tok} {T T' : List Tok} {c : Cla} (h : takeC E had t T = .ok (c, T')) (hT : okT T) : okC c ∧ c.word = t.text ∧ (∀ d ∈ had, d.word ≠ c.word) ∧ okT T' := by
  unfold takeC at h
  split at h
  · cases h
  rename_i hw
  split at h
  · cases h
  rename_i hany
  obtain ⟨⟨f, T1⟩, h1, h⟩ := bind_ok h
  obtain ⟨f1, g1⟩ := takeF_in h1 hT
  have hhad : ∀ d ∈ had, d.word ≠ t.text := fun d hd e => hany (by rw [List.any_eq_true]; exact ⟨d, hd, by simp [e]⟩)
  simp only at h
  split at h
  · rename_i ha
    obtain ⟨⟨l, T2⟩, h2, h⟩ := bind_ok h
    obtain ⟨⟨o, T3⟩, h3, h⟩ := map_ok h
    obtain ⟨f2, f3, g2⟩ := takeD_in h2 g1
    obtain ⟨f4, g3⟩ := takeO_in h3 g2
    obtain ⟨rfl, rfl⟩ := Prod.mk.inj h
    refine ⟨⟨fun x hx => ?_, .inl ⟨ha, rfl, ?_⟩⟩, rfl, hhad, g3⟩
    · rcases List.mem_append.1 hx with hx | hx
      · rcases List.mem_cons.1 hx with rfl | hx
        · exact f1
        · exact f2 x hx
      · exact f4 x hx
    · simp only [List.length_append, List.length_cons, f3, optLen]
      cases o <;> rfl
  · rename_i ha
    split at h
    · rename_i hp
      obtain ⟨⟨o, T3⟩, h3, h⟩ := map_ok h
      obtain ⟨f4, g3⟩ := takeO_in h3 g1
      obtain ⟨rfl, rfl⟩ := Prod.mk.inj h
      refine ⟨⟨fun x hx => ?_, .inr (.inl ⟨hp, by simpa using ha, rfl, ?_⟩)⟩, rfl, hhad, g3⟩
      · rcases List.mem_cons.1 hx with rfl | hx
        · exact f1
        · exact f4 x hx
      · simp only [List.length_cons, optLen]
        cases o <;> rfl
    · rename_i hp
      obtain ⟨rfl, rfl⟩ := Prod.mk.inj (Except.ok.inj h)
      refine ⟨⟨fun x hx => ?_, .inr (.inr ⟨?_, rfl, rfl, rfl⟩)⟩, rfl, hhad, g1⟩
      · rw [List.mem_singleton.1 hx]; exact f1
      · simp only [Bool.and_eq_true, Bool.not_eq_true'] at hw
        have ha' : isAddrW t.text = false := by simpa using ha
        have hp' : isPortW t.text = false := by simpa using hp
        cases e : (t.text == wProto) with
        | true => simpa using e
        | false => exact absurd ⟨⟨ha', hp'⟩, e⟩ hw
theorem takeCs_in {E : Nat} : ∀ {f : Nat} {had : List Cla} {T T' : List Tok} {l : List Cla}, takeCs E f had T = .ok (l, T') → okT T → (∀ c ∈ had, okC c) → had.Pairwise (fun a b => a.word ≠ b.word) → (∀ c ∈ l, okC c) ∧ l.Pairwise (fun a b => a.word ≠ b.word) ∧ okT T'
  | 0, had, T, T', l, h, hT, h1, h2 => by
    obtain ⟨rfl, rfl⟩ := Prod.mk.inj (Except.ok.inj h)
    exact ⟨h1, h2, hT⟩
  | f + 1, had, [], T', l, h, hT, h1, h2 => by
    obtain ⟨rfl, rfl⟩ := Prod.mk.inj (Except.ok.inj h)
    exact ⟨h1, h2, hT⟩
  | f + 1, had, t :: T, T', l, h, hT, h1, h2 => by
    rw [takeCs] at h
    split at h
    · obtain ⟨⟨c, T1⟩, h3, h⟩ := bind_ok h
      obtain ⟨g1, _, g3, g4⟩ := takeC_in h3 (okT_tail hT)
      refine takeCs_in h g4 (fun d hd => ?_) ?_
      · rcases List.mem_append.1 hd with hd | hd
        · exact h1 d hd
        · rw [List.mem_singleton.1 hd]; exact g1
      · rw [List.pairwise_append]
        exact ⟨h2, List.pairwise_singleton _ _, fun a ha b hb => by rw [List.mem_singleton.1 hb]; exact g3 a ha⟩
    · obtain ⟨rfl, rfl⟩ := Prod.mk.inj (Except.ok.inj h)
      exact ⟨h1, h2, hT⟩
theorem okF0 : okF ⟨0, 0⟩ := ⟨by decide, by decide⟩
theorem takeR_in {E : Nat} {T T' : List Tok} {x : Raw} (h : takeR E T = .ok (x, T')) (hT : okT T) : okR x ∧ okT T' := by
  unfold takeR at h
  obtain ⟨⟨⟨d, p, cs⟩, T1⟩, h1, ha⟩ := bind_ok h
  obtain ⟨⟨t, T2⟩, h2, hb⟩ := bind_ok ha
  obtain ⟨⟨⟨dr, po⟩, T3⟩, h3, hc⟩ := bind_ok hb
  obtain ⟨T4, h4, hd⟩ := map_ok hc
  obtain ⟨rfl, rfl⟩ := Prod.mk.inj hd
  clear h ha hb hc hd
  have hH : okF p ∧ (∀ c ∈ cs, okC c) ∧ cs.Pairwise (fun a b => a.word ≠ b.word) ∧ (d = true → cs = [] ∧ p.n = 0) ∧ okT T1 := by
    cases T with
    | nil => simp [takeH] at h1
    | cons u T =>
      rw [takeH] at h1
      split at h1
      · obtain ⟨e1, rfl⟩ := Prod.mk.inj (Except.ok.inj h1)
        obtain ⟨rfl, e2⟩ := Prod.mk.inj e1
        obtain ⟨rfl, rfl⟩ := Prod.mk.inj e2
        exact ⟨okF0, fun c hc => by simp at hc, List.Pairwise.nil, fun _ => ⟨rfl, rfl⟩, okT_tail hT⟩
      · obtain ⟨⟨f, T5⟩, h5, h7⟩ := bind_ok h1
        obtain ⟨⟨l, T6⟩, h6, h8⟩ := map_ok h7
        obtain ⟨e1, rfl⟩ := Prod.mk.inj h8
        obtain ⟨rfl, e2⟩ := Prod.mk.inj e1
        obtain ⟨rfl, rfl⟩ := Prod.mk.inj e2
        obtain ⟨f1, g1⟩ := takeF_in h5 hT
        obtain ⟨f2, f3, g2⟩ := takeCs_in h6 g1 (fun c hc => by simp at hc) List.Pairwise.nil
        exact ⟨f1, f2, f3, (fun hd => by cases hd), g2⟩
  obtain ⟨p1, p2, p3, p4, p5⟩ := hH
  obtain ⟨rfl, _⟩ := takeK_in h2
  have hA : okF po ∧ (dr = true → po.n = 0) ∧ okT T3 := by
    have hT2 := okT_tail p5
    cases T2 with
    | nil => simp [takeA] at h3
    | cons u T2 =>
      rw [takeA] at h3
      split at h3
      · obtain ⟨e1, rfl⟩ := Prod.mk.inj (Except.ok.inj h3)
        obtain ⟨rfl, rfl⟩ := Prod.mk.inj e1
        exact ⟨okF0, fun _ => rfl, okT_tail hT2⟩
      · split at h3
        · obtain ⟨⟨f, T5⟩, h5, h7⟩ := map_ok h3
          obtain ⟨e1, rfl⟩ := Prod.mk.inj h7
          obtain ⟨rfl, rfl⟩ := Prod.mk.inj e1
          obtain ⟨f1, g1⟩ := takeF_in h5 (okT_tail hT2)
          exact ⟨f1, (fun hd => by cases hd), g1⟩
        · cases h3
  obtain ⟨q1, q2, q3⟩ := hA
  have hE : okT T4 := by
    cases T3 with
    | nil => obtain rfl : [] = T4 := Except.ok.inj h4; exact q3
    | cons u T3 =>
      rw [takeE] at h4
      split at h4
      · obtain rfl : u :: T3 = T4 := Except.ok.inj h4; exact q3
      · cases h4
  exact ⟨⟨p1, q1, p2, p3, p4, q2⟩, hE⟩
theorem takeL_in {E : Nat} : ∀ {f : Nat} {had : List Raw} {T : List Tok} {l : List Raw}, takeL E f had T = .ok l → okT T → (∀ x ∈ had, okR x) → had.length ≤ 64 → (∀ x ∈ l, okR x) ∧ l.length ≤ 64
  | 0, had, T, l, h, _, h1, h2 => by
    obtain rfl : had = l := Except.ok.inj h
    exact ⟨h1, h2⟩
  | f + 1, had, [], l, h, _, h1, h2 => by
    obtain rfl : had = l := Except.ok.inj h
    exact ⟨h1, h2⟩
  | f + 1, had, t :: T, l, h, hT, h1, h2 => by
    rw [takeL] at h
    split at h
    · exact takeL_in h (okT_tail hT) h1 h2
    · split at h
      · cases h
      · rename_i h64
        obtain ⟨⟨x, T1⟩, h3, h⟩ := bind_ok h
        obtain ⟨g1, g2⟩ := takeR_in h3 hT
        refine takeL_in h g2 (fun y hy => ?_) (by simp; omega)
        rcases List.mem_append.1 hy with hy | hy
        · exact h1 y hy
        · rw [List.mem_singleton.1 hy]; exact g1
theorem parseT_in {S : List UInt8} {l : List Raw} (h : parseT S = .ok l) : (∀ x ∈ l, okR x) ∧ l.length ≤ 64 := by
  unfold parseT at h
  split at h
  · cases h
  · cases hx : lexW 0 S with
    | error e => rw [hx] at h; cases h
    | ok T =>
      rw [hx] at h
      exact takeL_in h (lexW_okT S 0 T hx) (fun x hx => by simp at hx) (Nat.zero_le _)
/-- Prints do not tell places. -/
theorem numsP_same (s : UInt8) : ∀ l l' : List Fig, l.map (·.n) = l'.map (·.n) → numsP s l = numsP s l'
  | [], [], _ => rfl
  | [], _ :: _, h => by simp at h
  | _ :: _, [], h => by simp at h
  | [x], [y], h => by simp only [List.map_cons, List.cons.injEq] at h; rw [numsP, numsP, h.1]
  | [x], y :: z :: l, h => by simp at h
  | x :: z :: l, [y], h => by simp at h
  | x :: z :: l, x' :: z' :: l', h => by
    rw [List.map_cons, List.map_cons (a := x')] at h
    obtain ⟨h1, h2⟩ := List.cons.inj h
    rw [numsP, numsP, h1, numsP_same s (z :: l) (z' :: l') h2]
theorem claP_same {c c' : Cla} (h : clC c = clC c') : claP c = claP c' := by
  unfold clC at h
  simp only [Prod.mk.injEq] at h
  obtain ⟨h1, h2, h3, h4⟩ := h
  have hl : lastSign c = lastSign c' := by unfold lastSign; rw [h3, h4]
  have hn : numsAll c = numsAll c' := by
    unfold numsAll
    rw [hl]
    cases hn : c.nums with
    | nil =>
      rw [hn] at h2
      have : c'.nums = [] := by simpa using h2.symm
      rw [this]
    | cons x l =>
      rw [hn] at h2
      cases hn' : c'.nums with
      | nil => rw [hn'] at h2; simp at h2
      | cons y l' =>
        rw [hn', List.map_cons, List.map_cons] at h2
        obtain ⟨g1, g2⟩ := List.cons.inj h2
        show decI x.n ++ _ = decI y.n ++ _
        rw [g1, numsP_same _ l l' g2]
  unfold claP
  rw [h1, hn]
theorem clas_same : ∀ l l' : List Cla, l.map clC = l'.map clC → l.flatMap claP = l'.flatMap claP
  | [], [], _ => rfl
  | [], _ :: _, h => by simp at h
  | _ :: _, [], h => by simp at h
  | c :: l, c' :: l', h => by
    rw [List.map_cons, List.map_cons] at h
    obtain ⟨h1, h2⟩ := List.cons.inj h
    rw [List.flatMap_cons, List.flatMap_cons, claP_same h1, clas_same l l' h2]
theorem print_same : ∀ l l' : List Raw, l.map clR = l'.map clR → printT l = printT l'
  | [], [], _ => rfl
  | [], _ :: _, h => by simp at h
  | _ :: _, [], h => by simp at h
  | x :: l, x' :: l', h => by
    rw [List.map_cons, List.map_cons] at h
    obtain ⟨h1, h2⟩ := List.cons.inj h
    have ih := print_same l l' h2
    unfold printT at ih ⊢
    rw [List.flatMap_cons, List.flatMap_cons, ih]
    congr 1
    unfold clR at h1
    simp only [Prod.mk.injEq] at h1
    obtain ⟨g1, g2, g3, g4, g5⟩ := h1
    unfold rowP headP actP
    rw [g1, g2, g4, g5, clas_same _ _ g3]
/-- WHAT IS PARSED IS, PRINTED AND PARSED AGAIN, THE SAME BUT FOR PLACES. -/
theorem parse_back {S : List UInt8} {l : List Raw} (h : parseT S = .ok l) (hlen : (printT l).length ≤ 4096) : ∃ l', parseT (printT l) = .ok l' ∧ l'.map clR = l.map clR ∧ printT l' = printT l := by
  obtain ⟨h1, h2⟩ := parseT_in h
  obtain ⟨l', h3, h4⟩ := parse_print l h1 h2 hlen
  exact ⟨l', h3, h4, print_same _ _ h4⟩
end Go.Proofs.YtnbklmmampdbfaaDoor
namespace Go.Proofs.YtnbklmmampdbfaaDoor
open Go
set_option maxRecDepth 20000

/-- Neither Arrow nor Line. -/
def Free (A : List Tok) : Prop := ∀ t ∈ A, t.kind ≠ 6 ∧ t.kind ≠ 7
def Eats (T T' : List Tok) : Prop := ∃ A, T = A ++ T' ∧ Free A
theorem Eats.refl (T : List Tok) : Eats T T := ⟨[], rfl, fun t ht => by simp at ht⟩
theorem Eats.trans {T T' T'' : List Tok} (h1 : Eats T T') (h2 : Eats T' T'') : Eats T T'' := by
  obtain ⟨A, rfl, hA⟩ := h1
  obtain ⟨B, rfl, hB⟩ := h2
  refine ⟨A ++ B, by rw [List.append_assoc], fun t ht => ?_⟩
  rcases List.mem_append.1 ht with ht | ht
  · exact hA t ht
  · exact hB t ht
theorem Eats.one {t : Tok} {T : List Tok} (h6 : t.kind ≠ 6) (h7 : t.kind ≠ 7) : Eats (t :: T) T := ⟨[t], rfl, fun u hu => by rw [List.mem_singleton.1 hu]; exact ⟨h6, h7⟩⟩
theorem eats_K {E k : Nat} {T T' : List Tok} {t : Tok} (h : takeK E k T = .ok (t, T')) (h6 : k ≠ 6) (h7 : k ≠ 7) : Eats T T' := by
  obtain ⟨rfl, hk⟩ := takeK_in h
  exact Eats.one (by omega) (by omega)
theorem eats_F {E : Nat} {T T' : List Tok} {f : Fig} (h : takeF E T = .ok (f, T')) : Eats T T' := by
  obtain ⟨⟨t, T1⟩, h1, h2⟩ := map_ok h
  obtain ⟨_, rfl⟩ := Prod.mk.inj h2
  exact eats_K h1 (by decide) (by decide)
theorem eats_D {E : Nat} : ∀ {n : Nat} {T T' : List Tok} {l : List Fig}, takeD E n T = .ok (l, T') → Eats T T'
  | 0, T, T', l, h => by
    obtain ⟨_, rfl⟩ := Prod.mk.inj (Except.ok.inj h)
    exact Eats.refl _
  | n + 1, T, T', l, h => by
    rw [takeD] at h
    obtain ⟨⟨t, T1⟩, h1, ha⟩ := bind_ok h
    obtain ⟨⟨f, T2⟩, h2, hb⟩ := bind_ok ha
    obtain ⟨⟨l2, T3⟩, h3, hc⟩ := map_ok hb
    obtain ⟨_, rfl⟩ := Prod.mk.inj hc
    exact ((eats_K h1 (by decide) (by decide)).trans (eats_F h2)).trans (eats_D h3)
theorem eats_O {E k : Nat} {T T' : List Tok} {o : Option Fig} (h : takeO E k T = .ok (o, T')) (h6 : k ≠ 6) (h7 : k ≠ 7) : Eats T T' := by
  cases T with
  | nil =>
    obtain ⟨_, rfl⟩ := Prod.mk.inj (Except.ok.inj h)
    exact Eats.refl _
  | cons t T =>
    rw [takeO] at h
    split at h
    · rename_i hk
      obtain ⟨⟨f, T1⟩, h1, h2⟩ := map_ok h
      obtain ⟨_, rfl⟩ := Prod.mk.inj h2
      exact (Eats.one (by omega) (by omega)).trans (eats_F h1)
    · obtain ⟨_, rfl⟩ := Prod.mk.inj (Except.ok.inj h)
      exact Eats.refl _
theorem eats_C {E : Nat} {had : List Cla} {t : Tok} {T T' : List Tok} {c : Cla} (h : takeC E had t T = .ok (c, T')) : Eats T T' := by
  unfold takeC at h
  split at h
  · cases h
  split at h
  · cases h
  obtain ⟨⟨f, T1⟩, h1, ha⟩ := bind_ok h
  have e1 := eats_F h1
  simp only at ha
  split at ha
  · obtain ⟨⟨l, T2⟩, h2, hb⟩ := bind_ok ha
    obtain ⟨⟨o, T3⟩, h3, hc⟩ := map_ok hb
    obtain ⟨_, rfl⟩ := Prod.mk.inj hc
    exact (e1.trans (eats_D h2)).trans (eats_O h3 (by decide) (by decide))
  · split at ha
    · obtain ⟨⟨o, T3⟩, h3, hc⟩ := map_ok ha
      obtain ⟨_, rfl⟩ := Prod.mk.inj hc
      exact e1.trans (eats_O h3 (by decide) (by decide))
    · obtain ⟨_, rfl⟩ := Prod.mk.inj (Except.ok.inj ha)
      exact e1
theorem eats_Cs {E : Nat} : ∀ {f : Nat} {had : List Cla} {T T' : List Tok} {l : List Cla}, takeCs E f had T = .ok (l, T') → Eats T T'
  | 0, had, T, T', l, h => by
    obtain ⟨_, rfl⟩ := Prod.mk.inj (Except.ok.inj h)
    exact Eats.refl _
  | f + 1, had, [], T', l, h => by
    obtain ⟨_, rfl⟩ := Prod.mk.inj (Except.ok.inj h)
    exact Eats.refl _
  | f + 1, had, t :: T, T', l, h => by
    rw [takeCs] at h
    split at h
    · rename_i hk
      obtain ⟨⟨c, T1⟩, h3, ha⟩ := bind_ok h
      exact ((Eats.one (by omega) (by omega)).trans (eats_C h3)).trans (eats_Cs ha)
    · obtain ⟨_, rfl⟩ := Prod.mk.inj (Except.ok.inj h)
      exact Eats.refl _
/-- A line has one Arrow, and no Line. -/
theorem eats_R {E : Nat} {T T' : List Tok} {x : Raw} (h : takeR E T = .ok (x, T')) : ∃ A t B, T = A ++ t :: (B ++ T') ∧ Free A ∧ t.kind = 6 ∧ Free B ∧ ∀ u, T'.head? = some u → u.kind = 7 := by
  unfold takeR at h
  obtain ⟨⟨⟨d, p, cs⟩, T1⟩, h1, ha⟩ := bind_ok h
  obtain ⟨⟨t, T2⟩, h2, hb⟩ := bind_ok ha
  obtain ⟨⟨⟨dr, po⟩, T3⟩, h3, hc⟩ := bind_ok hb
  obtain ⟨T4, h4, hd⟩ := map_ok hc
  obtain ⟨_, rfl⟩ := Prod.mk.inj hd
  have e1 : Eats T T1 := by
    cases T with
    | nil => simp [takeH] at h1
    | cons u T =>
      rw [takeH] at h1
      split at h1
      · rename_i hu
        obtain ⟨_, rfl⟩ := Prod.mk.inj (Except.ok.inj h1)
        exact Eats.one (by omega) (by omega)
      · obtain ⟨⟨f, T5⟩, h5, h7⟩ := bind_ok h1
        obtain ⟨⟨l, T6⟩, h6, h8⟩ := map_ok h7
        obtain ⟨_, rfl⟩ := Prod.mk.inj h8
        exact (eats_F h5).trans (eats_Cs h6)
  have e2 : Eats T2 T3 := by
    cases T2 with
    | nil => simp [takeA] at h3
    | cons u T2 =>
      rw [takeA] at h3
      split at h3
      · rename_i hu
        obtain ⟨_, rfl⟩ := Prod.mk.inj (Except.ok.inj h3)
        exact Eats.one (by omega) (by omega)
      · split at h3
        · rename_i hu
          obtain ⟨⟨f, T5⟩, h5, h7⟩ := map_ok h3
          obtain ⟨_, rfl⟩ := Prod.mk.inj h7
          exact (Eats.one (by omega) (by omega)).trans (eats_F h5)
        · cases h3
  have e3 : T3 = T4 ∧ ∀ u, T4.head? = some u → u.kind = 7 := by
    cases T3 with
    | nil =>
      obtain rfl : [] = T4 := Except.ok.inj h4
      exact ⟨rfl, fun u hu => by simp at hu⟩
    | cons u T3 =>
      rw [takeE] at h4
      split at h4
      · rename_i hk
        obtain rfl : u :: T3 = T4 := Except.ok.inj h4
        exact ⟨rfl, fun v hv => by
          obtain rfl : u = v := by simpa using hv
          exact hk⟩
      · cases h4
  obtain ⟨rfl, e4⟩ := e3
  obtain ⟨A, rfl, hA⟩ := e1
  obtain ⟨rfl, hk⟩ := takeK_in h2
  obtain ⟨B, rfl, hB⟩ := e2
  exact ⟨A, t, B, rfl, hA, hk, hB, e4⟩
/-- Arrows are counted, in all and in a row. -/
def arrGo : Nat → Nat → List Tok → Option Nat
  | n, _, [] => some n
  | n, row, t :: T =>
    if 1 < (if t.kind = 7 then 0 else if t.kind = 6 then row + 1 else row) then none
    else arrGo (if t.kind = 6 then n + 1 else n) (if t.kind = 7 then 0 else if t.kind = 6 then row + 1 else row) T
theorem arr_free (n row : Nat) (hr : row ≤ 1) (T : List Tok) : ∀ A : List Tok, Free A → arrGo n row (A ++ T) = arrGo n row T
  | [], _ => rfl
  | t :: A, h => by
    have ht := h t (by simp)
    rw [List.cons_append, arrGo, if_neg ht.2, if_neg ht.1, if_neg ht.1, if_neg (by omega)]
    exact arr_free n row hr T A fun u hu => h u (by simp [hu])
theorem arr_rows {E : Nat} : ∀ {f : Nat} {had : List Raw} {T : List Tok} {l : List Raw} (n row : Nat), takeL E f had T = .ok l → T.length < f → (row = 0 ∨ row = 1 ∧ ∀ u, T.head? = some u → u.kind = 7) → had.length ≤ l.length ∧ arrGo n row T = some (n + (l.length - had.length))
  | 0, had, T, l, n, row, h, hf, _ => by omega
  | f + 1, had, [], l, n, row, h, _, _ => by
    obtain rfl : had = l := Except.ok.inj h
    exact ⟨Nat.le_refl _, by rw [arrGo]; simp⟩
  | f + 1, had, t :: T, l, n, row, h, hf, hr => by
    rw [takeL] at h
    split at h
    · rename_i hk
      have ih := arr_rows n 0 h (by simpa using hf) (.inl rfl)
      refine ⟨ih.1, ?_⟩
      rw [arrGo, if_pos hk, if_neg (by omega), if_neg (by omega)]
      exact ih.2
    · rename_i hk
      have hrow : row = 0 := by
        rcases hr with hr | ⟨_, hr⟩
        · exact hr
        · exact absurd (hr t rfl) hk
      subst hrow
      split at h
      · cases h
      · obtain ⟨⟨x, T1⟩, h3, ha⟩ := bind_ok h
        obtain ⟨A, u, B, hT, hA, hu, hB, hl⟩ := eats_R h3
        have hlen : T1.length < f := by
          have := congrArg List.length hT
          simp only [List.length_cons, List.length_append] at this hf
          omega
        have ih := arr_rows (n + 1) 1 ha hlen (.inr ⟨rfl, hl⟩)
        rw [List.length_append, List.length_singleton] at ih
        refine ⟨by omega, ?_⟩
        have e : arrGo n 0 (u :: (B ++ T1)) = arrGo (n + 1) 1 (B ++ T1) := by simp [arrGo, hu]
        rw [hT, arr_free n 0 (by omega) _ A hA, e, arr_free (n + 1) 1 (by omega) _ B hB, ih.2]
        congr 1
        omega
/-- AS MANY LINES AS ARROWS, ONE IN EACH. -/
theorem parse_arrows {S : List UInt8} {l : List Raw} (h : parseT S = .ok l) : ∃ T, lexW 0 S = .ok T ∧ arrGo 0 0 T = some l.length ∧ l.length ≤ 64 := by
  have h64 := (parseT_in h).2
  unfold parseT at h
  split at h
  · cases h
  · cases hx : lexW 0 S with
    | error e => rw [hx] at h; cases h
    | ok T =>
      rw [hx] at h
      have := (arr_rows 0 0 h (by omega) (.inl rfl)).2
      exact ⟨T, rfl, by simpa using this, h64⟩

/-- Lines ahead of others. -/
theorem rows_go (E : Nat) (b : List St) : ∀ (l : List Raw) (f : Nat) (had : List Raw) (T : List Tok), T.length < f → had.length + l.length ≤ 64 → (∀ x ∈ l, okR x) → T.map st = l.flatMap tokR ++ b →
    ∃ l' A T' f', takeL E f had T = takeL E f' (had ++ l') T' ∧ l'.length = l.length ∧ T = A ++ T' ∧ T'.map st = b ∧ T'.length < f'
  | [], f, had, T, hf, _, _, h => ⟨[], [], T, f, by rw [List.append_nil], rfl, rfl, h, hf⟩
  | x :: l, 0, had, T, hf, _, _, _ => by omega
  | x :: l, 1, had, T, hf, _, _, h => by
    obtain rfl : T = [] := List.eq_nil_of_length_eq_zero (by omega)
    obtain ⟨s, r, e, _⟩ := tokR_head x
    rw [List.flatMap_cons, e] at h
    simp at h
  | x :: l, f + 2, had, T, hf, h64, hok, h => by
    rw [List.flatMap_cons, List.append_assoc] at h
    obtain ⟨x', T', e1, hx', h1⟩ := rowT_ok E x (hok x (by simp)) h
    obtain ⟨A1, t1, B1, hT1, _⟩ := eats_R e1
    obtain ⟨s, r, e, hs⟩ := tokR_head x
    rw [e, List.cons_append] at h
    obtain ⟨t, T0, rfl, ht, _⟩ := map_cons h
    have hk : t.kind ≠ 7 := by rw [show t.kind = s.1 from congrArg Prod.fst ht]; exact hs
    obtain ⟨u, T2, rfl, hu, h2⟩ := map_cons h1
    have hku : u.kind = 7 := congrArg Prod.fst hu
    have hlen : T2.length < f := by
      have := congrArg List.length hT1
      simp only [List.length_cons, List.length_append] at this hf
      omega
    obtain ⟨l', A, T3, f', e2, hl', hA, hb, hf'⟩ := rows_go E b l f (had ++ [x']) T2 hlen (by simp at h64 ⊢; omega) (fun y hy => hok y (by simp [hy])) h2
    refine ⟨x' :: l', A1 ++ t1 :: (B1 ++ u :: A), T3, f', ?_, by simp [hl'], ?_, hb, hf'⟩
    · rw [takeL, if_neg hk, if_neg (by simp at h64; omega), e1]
      simp only [Except.bind]
      rw [takeL, if_pos hku, e2, List.append_assoc]; rfl
    · rw [hT1, hA]; simp
/-- A line of no clauses: '1 -> drop'. -/
def row1 : Raw := ⟨0, false, ⟨1, 0⟩, [], true, ⟨0, 0⟩⟩
theorem row1_ok : okR row1 := ⟨⟨by decide, by decide⟩, okF0, fun c hc => by simp [row1] at hc, List.Pairwise.nil, (fun h => by cases h), fun _ => rfl⟩
theorem row1_text : rowP row1 = [49, 32, 45, 62, 32, 100, 114, 111, 112, 10] := by decide
theorem print_rep (n : Nat) : (printT (List.replicate n row1)).length = 10 * n := by
  unfold printT
  induction n with
  | zero => rfl
  | succ n ih => rw [List.replicate_succ, List.flatMap_cons, List.length_append, ih, row1_text]; simp; omega
theorem print_add (m n : Nat) : printT (List.replicate (m + n) row1) = printT (List.replicate m row1) ++ printT (List.replicate n row1) := by
  unfold printT; rw [← List.replicate_append_replicate, List.flatMap_append]
/-- SO MANY LINES AS MAY BE, AND ONE MORE. -/
theorem parse_many (n : Nat) (hn : n ≤ 127) : (n ≤ 64 → ∃ l, parseT (printT (List.replicate n row1)) = .ok l ∧ l.length = n) ∧ (64 < n → parseT (printT (List.replicate n row1)) = .error (4, 640)) := by
  have hok : ∀ m, ∀ x ∈ List.replicate m row1, okR x := fun m x hx => by rw [List.eq_of_mem_replicate hx]; exact row1_ok
  have hlen : (printT (List.replicate n row1)).length ≤ 4096 := by rw [print_rep]; omega
  constructor
  · intro h
    obtain ⟨l', e, hl⟩ := parse_print (List.replicate n row1) (hok n) (by simpa using h) hlen
    refine ⟨l', e, ?_⟩
    have := congrArg List.length hl
    simpa using this
  · intro h
    obtain ⟨k, rfl⟩ : ∃ k, n = 64 + (k + 1) := ⟨n - 65, by omega⟩
    obtain ⟨T1, h1, e1⟩ := lx_print (List.replicate 64 row1) (hok 64) 0 (printT (List.replicate (k + 1) row1)) trivial
    obtain ⟨T2, h2, e2⟩ := lx_print (List.replicate (k + 1) row1) (hok (k + 1)) 640 [] trivial
    rw [List.append_nil, lexW_nil] at e2
    rw [print_rep, show 0 + 10 * 64 = 640 from rfl, e2, ← print_add] at e1
    have hlex : lexW 0 (printT (List.replicate (64 + (k + 1)) row1)) = .ok (T1 ++ T2) := by rw [e1]; simp [glue]
    have hT2 : ∃ t T3, T2 = t :: T3 ∧ t.pos = 640 ∧ t.kind = 2 := by
      have hx : lexeme 49 ([32, 45, 62, 32, 100, 114, 111, 112, 10] ++ printT (List.replicate k row1)) = (Lx.tok 2 [] 1, 0) := by
        unfold lexeme
        rw [if_neg (by decide), if_neg (by decide), if_pos (by decide), List.cons_append, List.takeWhile_cons, if_neg (by decide)]
        rfl
      have hp : printT (List.replicate (k + 1) row1) = 49 :: ([32, 45, 62, 32, 100, 114, 111, 112, 10] ++ printT (List.replicate k row1)) := by
        unfold printT
        rw [List.replicate_succ, List.flatMap_cons, row1_text]; rfl
      rw [hp, lexW_tok hx] at e2
      cases hy : lexW (640 + 1 + 0) (List.drop 0 ([32, 45, 62, 32, 100, 114, 111, 112, 10] ++ printT (List.replicate k row1))) with
      | error x => rw [hy] at e2; simp [glue] at e2
      | ok l' =>
        rw [hy] at e2
        refine ⟨⟨2, 640, [], 1⟩, l', ?_, rfl, rfl⟩
        simpa [glue] using e2.symm
    obtain ⟨t, T3, rfl, hpos, hkind⟩ := hT2
    unfold parseT
    rw [if_neg (by omega), hlex]
    obtain ⟨l', A, T', f', e3, hl', hA, hb, hf'⟩ := rows_go (printT (List.replicate (64 + (k + 1)) row1)).length ((t :: T3).map st) (List.replicate 64 row1) ((T1 ++ t :: T3).length + 1) [] (T1 ++ t :: T3) (by omega) (by simp) (hok 64) (by rw [List.map_append, h1])
    have hT' : T' = t :: T3 := by
      have hl : T'.length = (t :: T3).length := by simpa using congrArg List.length hb
      exact ((List.append_inj' hA.symm hl).2)
    subst hT'
    show takeL _ _ _ _ = _
    rw [e3]
    cases f' with
    | zero => omega
    | succ f' => rw [takeL, if_neg (by omega), if_pos (by simpa using hl'), hpos]
end Go.Proofs.YtnbklmmampdbfaaDoor
namespace Go.Proofs.YtnbklmmampdbfaaDoor
open Go
set_option maxRecDepth 20000

/-- What a line means. -/
structure Ent where
  dflt : Bool
  prio : Int
  action : Int
  src : Int
  srcBits : Int
  dst : Int
  dstBits : Int
  slow : Int
  shigh : Int
  dlow : Int
  dhigh : Int
  proto : Int

abbrev ResI (α : Type) := Except (Nat × Int) α
def mustN (c : Cla) : Nat := if isAddrW c.word then (if c.slash then 5 else 4) else if isPortW c.word then (if c.dash then 2 else 1) else if c.word == wProto then 1 else 0
def mostN (w : List UInt8) (k : Nat) : Int := if isPortW w then 65535 else if !(w == wProto) && k == 4 then 32 else 255
/-- The first number of a clause that may not be. -/
def faultN (c : Cla) (first : Int) : Nat → List Fig → ResI Unit
  | _, [] => .ok ()
  | k, x :: l => if decide (x.n < 0) || decide (mostN c.word k < x.n) || (c.dash && isPortW c.word && k == 1 && decide (x.n < first)) then .error (10, x.pos) else faultN c first (k + 1) l
def nth (c : Cla) (k : Nat) : Int := (c.nums.getD k ⟨0, 0⟩).n
def faultC (had : List Cla) (c : Cla) : ResI Unit :=
  if mustN c == 0 || c.nums.length != mustN c then .error (8, c.pos) else if had.any (fun d => d.word == c.word) then .error (9, c.pos) else faultN c (nth c 0) 0 c.nums
def faultCs : List Cla → List Cla → ResI Unit
  | _, [] => .ok ()
  | had, c :: l => (faultC had c).bind fun _ => faultCs (had ++ [c]) l
/-- What is wrong with a line first, and where. -/
def faultR (r : Raw) : ResI Unit := if decide (r.prio.n < 0) || decide (65535 < r.prio.n) then .error (10, r.prio.pos) else faultCs [] r.clauses

def findC (w : List UInt8) (l : List Cla) : Option Cla := l.find? fun c => c.word == w
def preOf (l : List Cla) (w : List UInt8) : Int × Int := match findC w l with
  | none => (0, 0)
  | some c => (((nth c 0 * 256 + nth c 1) * 256 + nth c 2) * 256 + nth c 3, if c.slash then nth c 4 else 32)
def porOf (l : List Cla) (w : List UInt8) : Int × Int := match findC w l with
  | none => (0, 65535)
  | some c => (nth c 0, if c.dash then nth c 1 else nth c 0)
def proOf (l : List Cla) : Int := match findC wProto l with
  | none => -1
  | some c => nth c 0
def actOf (r : Raw) : Int := if r.drop then 0 else r.port.n
/-- What a line without faults means. -/
def meaning (r : Raw) : Ent := if r.dflt then ⟨true, 0, actOf r, 0, 0, 0, 0, 0, 0, 0, 0, 0⟩ else
  ⟨false, r.prio.n, actOf r, (preOf r.clauses wSrc).1, (preOf r.clauses wSrc).2, (preOf r.clauses wDst).1, (preOf r.clauses wDst).2, (porOf r.clauses wSport).1, (porOf r.clauses wSport).2, (porOf r.clauses wDport).1, (porOf r.clauses wDport).2, proOf r.clauses⟩
/-- Lines, one behind the other. -/
def checkGo (size : Int) : Nat → Bool → List Raw → ResI (List Ent)
  | _, had, [] => if had then .ok [] else .error (11, size)
  | i, had, r :: l => if 64 ≤ i then .error (4, r.pos) else if r.dflt && had then .error (9, r.pos) else
    (if r.dflt then .ok () else faultR r).bind fun _ => if !r.drop && (decide (r.port.n < 1) || decide (99 < r.port.n)) then .error (10, r.port.pos) else (checkGo size (i + 1) (had || r.dflt) l).map fun m => meaning r :: m
/-- What a text means. -/
def readT (S : List UInt8) : ResI (List Ent) := match parseT S with
  | .error x => .error (x.1, (x.2 : Int))
  | .ok l => checkGo (S.length : Int) 0 false l

def fig0 (n : Int) : Fig := ⟨n, 0⟩
def addrC7 (w : List UInt8) (v n : Int) : Cla := ⟨w, 0, [fig0 (v / 16777216), fig0 (v / 65536 % 256), fig0 (v / 256 % 256), fig0 (v % 256), fig0 n], true, false⟩
def portC7 (w : List UInt8) (a b : Int) : Cla := if a = b then ⟨w, 0, [fig0 a], false, false⟩ else ⟨w, 0, [fig0 a, fig0 b], false, true⟩
def partA (w : List UInt8) (v n : Int) : List Cla := if v = 0 ∧ n = 0 then [] else [addrC7 w v n]
def partP (w : List UInt8) (a b : Int) : List Cla := if a = 0 ∧ b = 65535 then [] else [portC7 w a b]
def partO (p : Int) : List Cla := if p = -1 then [] else [⟨wProto, 0, [fig0 p], false, false⟩]
/-- An entry as it would be written. -/
def lineOf (x : Ent) : Raw := ⟨0, x.dflt, fig0 x.prio, if x.dflt then [] else partA wSrc x.src x.srcBits ++ (partA wDst x.dst x.dstBits ++ (partP wSport x.slow x.shigh ++ (partP wDport x.dlow x.dhigh ++ partO x.proto))), decide (x.action = 0), fig0 x.action⟩
def printE (l : List Ent) : List UInt8 := printT (l.map lineOf)

/-- An entry as it may be. -/
structure okE (x : Ent) : Prop where
  act : 0 ≤ x.action ∧ x.action ≤ 99
  zero : x.dflt = true → x = ⟨true, 0, x.action, 0, 0, 0, 0, 0, 0, 0, 0, 0⟩
  prio : 0 ≤ x.prio ∧ x.prio ≤ 65535
  src : 0 ≤ x.src ∧ x.src < 4294967296 ∧ 0 ≤ x.srcBits ∧ x.srcBits ≤ 32
  dst : 0 ≤ x.dst ∧ x.dst < 4294967296 ∧ 0 ≤ x.dstBits ∧ x.dstBits ≤ 32
  sp : 0 ≤ x.slow ∧ x.slow ≤ x.shigh ∧ x.shigh ≤ 65535
  dp : 0 ≤ x.dlow ∧ x.dlow ≤ x.dhigh ∧ x.dhigh ≤ 65535
  proto : x.dflt = false → -1 ≤ x.proto ∧ x.proto ≤ 255

theorem okC_addr (w : List UInt8) (hw : isAddrW w = true) (v n : Int) (hv : 0 ≤ v ∧ v < 4294967296 ∧ 0 ≤ n ∧ n ≤ 32) : okC (addrC7 w v n) := by
  refine ⟨fun x hx => ?_, .inl ⟨hw, rfl, rfl⟩⟩
  simp only [addrC7, List.mem_cons, List.not_mem_nil, or_false] at hx
  rcases hx with rfl | rfl | rfl | rfl | rfl <;> exact ⟨by simp only [fig0]; omega, by simp only [fig0]; omega⟩
theorem portW_not {w : List UInt8} (hw : isPortW w = true) : isAddrW w = false := by
  unfold isPortW at hw
  simp only [Bool.or_eq_true, beq_iff_eq] at hw
  rcases hw with rfl | rfl <;> decide
theorem okC_port (w : List UInt8) (hw : isPortW w = true) (a b : Int) (h : 0 ≤ a ∧ a ≤ b ∧ b ≤ 65535) : okC (portC7 w a b) := by
  unfold portC7
  split
  · refine ⟨fun x hx => ?_, .inr (.inl ⟨hw, portW_not hw, rfl, rfl⟩)⟩
    rw [List.mem_singleton.1 hx]
    exact ⟨by simp only [fig0]; omega, by simp only [fig0]; omega⟩
  · refine ⟨fun x hx => ?_, .inr (.inl ⟨hw, portW_not hw, rfl, rfl⟩)⟩
    simp only [List.mem_cons, List.not_mem_nil, or_false] at hx
    rcases hx with rfl | rfl <;> exact ⟨by simp only [fig0]; omega, by simp only [fig0]; omega⟩
theorem portC7_word (w : List UInt8) (a b : Int) : (portC7 w a b).word = w := by unfold portC7; split <;> rfl
theorem partA_word {w : List UInt8} {v n : Int} {c : Cla} (h : c ∈ partA w v n) : c.word = w := by
  unfold partA at h
  split at h
  · simp at h
  · rw [List.mem_singleton.1 h]; rfl
theorem partP_word {w : List UInt8} {v n : Int} {c : Cla} (h : c ∈ partP w v n) : c.word = w := by
  unfold partP at h
  split at h
  · simp at h
  · rw [List.mem_singleton.1 h]; exact portC7_word _ _ _
theorem partO_word {p : Int} {c : Cla} (h : c ∈ partO p) : c.word = wProto := by
  unfold partO at h
  split at h
  · simp at h
  · rw [List.mem_singleton.1 h]
def lineC (x : Ent) : List Cla := partA wSrc x.src x.srcBits ++ (partA wDst x.dst x.dstBits ++ (partP wSport x.slow x.shigh ++ (partP wDport x.dlow x.dhigh ++ partO x.proto)))
theorem pw_short (l : List Cla) (h : l.length ≤ 1) : l.Pairwise fun a b => a.word ≠ b.word := by
  rcases l with _ | ⟨a, _ | ⟨b, l⟩⟩
  · exact List.Pairwise.nil
  · exact List.pairwise_singleton _ _
  · simp at h
theorem partA_len (w : List UInt8) (v n : Int) : (partA w v n).length ≤ 1 := by unfold partA; split <;> simp
theorem partP_len (w : List UInt8) (v n : Int) : (partP w v n).length ≤ 1 := by unfold partP; split <;> simp
theorem partO_len (p : Int) : (partO p).length ≤ 1 := by unfold partO; split <;> simp
theorem okR_line (x : Ent) (h : okE x) : okR (lineOf x) := by
  have hcl : x.dflt = false → (∀ c ∈ lineC x, okC c) ∧ (lineC x).Pairwise fun a b => a.word ≠ b.word := by
    intro hd
    refine ⟨fun c hc => ?_, ?_⟩
    · unfold lineC at hc
      simp only [List.mem_append] at hc
      rcases hc with hc | hc | hc | hc | hc
      · unfold partA at hc
        split at hc
        · simp at hc
        · rw [List.mem_singleton.1 hc]; exact okC_addr _ (by decide) _ _ h.src
      · unfold partA at hc
        split at hc
        · simp at hc
        · rw [List.mem_singleton.1 hc]; exact okC_addr _ (by decide) _ _ h.dst
      · unfold partP at hc
        split at hc
        · simp at hc
        · rw [List.mem_singleton.1 hc]; exact okC_port _ (by decide) _ _ h.sp
      · unfold partP at hc
        split at hc
        · simp at hc
        · rw [List.mem_singleton.1 hc]; exact okC_port _ (by decide) _ _ h.dp
      · unfold partO at hc
        split at hc
        · simp at hc
        · rename_i hp
          rw [List.mem_singleton.1 hc]
          have := h.proto hd
          refine ⟨fun y hy => ?_, .inr (.inr ⟨rfl, rfl, rfl, rfl⟩)⟩
          rw [List.mem_singleton.1 hy]
          exact ⟨by simp only [fig0]; omega, by simp only [fig0]; omega⟩
    · unfold lineC
      rw [List.pairwise_append]
      refine ⟨pw_short _ (partA_len _ _ _), ?_, fun a ha b hb => ?_⟩
      · rw [List.pairwise_append]
        refine ⟨pw_short _ (partA_len _ _ _), ?_, fun a ha b hb => ?_⟩
        · rw [List.pairwise_append]
          refine ⟨pw_short _ (partP_len _ _ _), ?_, fun a ha b hb => ?_⟩
          · rw [List.pairwise_append]
            refine ⟨pw_short _ (partP_len _ _ _), pw_short _ (partO_len _), fun a ha b hb => ?_⟩
            rw [partP_word ha, partO_word hb]; decide
          · rw [partP_word ha]
            rcases List.mem_append.1 hb with hb | hb
            · rw [partP_word hb]; decide
            · rw [partO_word hb]; decide
        · rw [partA_word ha]
          simp only [List.mem_append] at hb
          rcases hb with hb | hb | hb
          · rw [partP_word hb]; decide
          · rw [partP_word hb]; decide
          · rw [partO_word hb]; decide
      · rw [partA_word ha]
        simp only [List.mem_append] at hb
        rcases hb with hb | hb | hb | hb
        · rw [partA_word hb]; decide
        · rw [partP_word hb]; decide
        · rw [partP_word hb]; decide
        · rw [partO_word hb]; decide
  refine ⟨?_, ?_, ?_, ?_, ?_, ?_⟩
  · exact ⟨h.prio.1, by have := h.prio.2; show x.prio ≤ _; omega⟩
  · exact ⟨h.act.1, by have := h.act.2; show x.action ≤ _; omega⟩
  · unfold lineOf
    cases hd : x.dflt with
    | true => intro c hc; simp at hc
    | false => exact (hcl hd).1
  · unfold lineOf
    cases hd : x.dflt with
    | true => exact List.Pairwise.nil
    | false => exact (hcl hd).2
  · intro hd
    have hd' : x.dflt = true := hd
    have hz := h.zero hd'
    refine ⟨by unfold lineOf; rw [hd']; rfl, ?_⟩
    show x.prio = 0
    rw [hz]
  · intro hd
    have : x.action = 0 := by simpa [lineOf] using hd
    exact this
end Go.Proofs.YtnbklmmampdbfaaDoor
namespace Go.Proofs.YtnbklmmampdbfaaDoor
open Go
set_option maxRecDepth 20000

theorem find_none {w w' : List UInt8} {l : List Cla} (h : ∀ c ∈ l, c.word = w') (hw : w' ≠ w) : findC w l = none := by
  unfold findC
  rw [List.find?_eq_none]
  intro c hc
  rw [h c hc]
  simpa using hw
theorem find_append (w : List UInt8) (a b : List Cla) : findC w (a ++ b) = (findC w a).or (findC w b) := List.find?_append
theorem find_one {w : List UInt8} {c : Cla} (h : c.word = w) : findC w [c] = some c := by unfold findC; rw [List.find?_cons_of_pos (by simp [h])]
theorem find_A (w : List UInt8) (v n : Int) : findC w (partA w v n) = if v = 0 ∧ n = 0 then none else some (addrC7 w v n) := by
  unfold partA
  split
  · rfl
  · exact find_one rfl
theorem find_P (w : List UInt8) (v n : Int) : findC w (partP w v n) = if v = 0 ∧ n = 65535 then none else some (portC7 w v n) := by
  unfold partP
  split
  · rfl
  · exact find_one (portC7_word _ _ _)
theorem find_O (p : Int) : findC wProto (partO p) = if p = -1 then none else some ⟨wProto, 0, [fig0 p], false, false⟩ := by
  unfold partO
  split
  · rfl
  · exact find_one rfl
theorem nA (w w' : List UInt8) (hw : w' ≠ w) (v n : Int) : findC w (partA w' v n) = none := find_none (fun _ h => partA_word h) hw
theorem nP (w w' : List UInt8) (hw : w' ≠ w) (v n : Int) : findC w (partP w' v n) = none := find_none (fun _ h => partP_word h) hw
theorem nO (w : List UInt8) (hw : wProto ≠ w) (p : Int) : findC w (partO p) = none := find_none (fun _ h => partO_word h) hw
theorem or_none {α : Type} (x : Option α) : x.or none = x := by cases x <;> rfl
theorem find_src (x : Ent) : findC wSrc (lineC x) = if x.src = 0 ∧ x.srcBits = 0 then none else some (addrC7 wSrc x.src x.srcBits) := by
  unfold lineC
  rw [find_append, find_append, find_append, find_append, nA wSrc wDst (by decide), nP wSrc wSport (by decide), nP wSrc wDport (by decide), nO wSrc (by decide), find_A]
  simp
theorem find_dst (x : Ent) : findC wDst (lineC x) = if x.dst = 0 ∧ x.dstBits = 0 then none else some (addrC7 wDst x.dst x.dstBits) := by
  unfold lineC
  rw [find_append, find_append, find_append, find_append, nA wDst wSrc (by decide), nP wDst wSport (by decide), nP wDst wDport (by decide), nO wDst (by decide), find_A]
  simp
theorem find_sport (x : Ent) : findC wSport (lineC x) = if x.slow = 0 ∧ x.shigh = 65535 then none else some (portC7 wSport x.slow x.shigh) := by
  unfold lineC
  rw [find_append, find_append, find_append, find_append, nA wSport wSrc (by decide), nA wSport wDst (by decide), nP wSport wDport (by decide), nO wSport (by decide), find_P]
  simp
theorem find_dport (x : Ent) : findC wDport (lineC x) = if x.dlow = 0 ∧ x.dhigh = 65535 then none else some (portC7 wDport x.dlow x.dhigh) := by
  unfold lineC
  rw [find_append, find_append, find_append, find_append, nA wDport wSrc (by decide), nA wDport wDst (by decide), nP wDport wSport (by decide), nO wDport (by decide), find_P]
  simp
theorem find_proto (x : Ent) : findC wProto (lineC x) = if x.proto = -1 then none else some ⟨wProto, 0, [fig0 x.proto], false, false⟩ := by
  unfold lineC
  rw [find_append, find_append, find_append, find_append, nA wProto wSrc (by decide), nA wProto wDst (by decide), nP wProto wSport (by decide), nP wProto wDport (by decide), find_O]
  simp
theorem pre_addr {l : List Cla} {w : List UInt8} {v n : Int} (h : findC w l = if v = 0 ∧ n = 0 then none else some (addrC7 w v n)) (hv : 0 ≤ v ∧ v < 4294967296 ∧ 0 ≤ n ∧ n ≤ 32) : preOf l w = (v, n) := by
  unfold preOf
  rw [h]
  by_cases c : v = 0 ∧ n = 0
  · rw [if_pos c]; obtain ⟨rfl, rfl⟩ := c; rfl
  · rw [if_neg c]
    simp only [addrC7, nth, fig0, List.getD_cons_zero, List.getD_cons_succ]
    congr 1
    · omega
theorem por_port {l : List Cla} {w : List UInt8} {a b : Int} (h : findC w l = if a = 0 ∧ b = 65535 then none else some (portC7 w a b)) : porOf l w = (a, b) := by
  unfold porOf
  rw [h]
  by_cases c : a = 0 ∧ b = 65535
  · rw [if_pos c]; obtain ⟨rfl, rfl⟩ := c; rfl
  · rw [if_neg c]
    by_cases e : a = b
    · subst e
      simp [portC7, nth, fig0]
    · simp [portC7, e, nth, fig0]
theorem pro_proto {l : List Cla} {p : Int} (h : findC wProto l = if p = -1 then none else some ⟨wProto, 0, [fig0 p], false, false⟩) : proOf l = p := by
  unfold proOf
  rw [h]
  by_cases c : p = -1
  · rw [if_pos c, c]
  · rw [if_neg c]; rfl
theorem lineOf_clauses {x : Ent} (h : x.dflt = false) : (lineOf x).clauses = lineC x := by unfold lineOf; rw [h]; rfl
/-- What an entry's line means is the entry. -/
theorem meaning_line (x : Ent) (h : okE x) : meaning (lineOf x) = x := by
  have hact : actOf (lineOf x) = x.action := by
    show (if decide (x.action = 0) = true then 0 else x.action) = x.action
    by_cases c : x.action = 0
    · rw [if_pos (by simpa using c), c]
    · rw [if_neg (by simpa using c)]
  unfold meaning
  rw [hact]
  cases hd : x.dflt with
  | true =>
    rw [if_pos (show (lineOf x).dflt = true from hd)]
    exact (h.zero hd).symm
  | false =>
    rw [if_neg (show ¬ (lineOf x).dflt = true by rw [show (lineOf x).dflt = x.dflt from rfl, hd]; decide), lineOf_clauses hd, pre_addr (find_src x) h.src, pre_addr (find_dst x) h.dst, por_port (find_sport x), por_port (find_dport x), pro_proto (find_proto x)]
    show (⟨false, x.prio, x.action, x.src, x.srcBits, x.dst, x.dstBits, x.slow, x.shigh, x.dlow, x.dhigh, x.proto⟩ : Ent) = x
    rw [← hd]

theorem faultCs_append : ∀ (a had b : List Cla), faultCs had (a ++ b) = (faultCs had a).bind fun _ => faultCs (had ++ a) b
  | [], had, b => by rw [List.nil_append, List.append_nil]; rfl
  | c :: a, had, b => by
    rw [List.cons_append, faultCs, faultCs]
    cases faultC had c with
    | error e => rfl
    | ok u =>
      simp only [Except.bind]
      rw [faultCs_append a (had ++ [c]) b, List.append_assoc]
      rfl
theorem faultN_ok (c : Cla) (first : Int) : ∀ (l : List Fig) (k : Nat), (∀ (j : Nat) (x : Fig), l[j]? = some x → 0 ≤ x.n ∧ x.n ≤ mostN c.word (k + j) ∧ (c.dash = true → isPortW c.word = true → k + j = 1 → first ≤ x.n)) → faultN c first k l = .ok ()
  | [], _, _ => rfl
  | x :: l, k, h => by
    have h0 := h 0 x rfl
    rw [faultN, if_neg]
    · exact faultN_ok c first l (k + 1) fun j y hy => by
        have := h (j + 1) y (by simpa using hy)
        rw [show k + 1 + j = k + (j + 1) by omega]
        exact this
    · simp only [Bool.or_eq_true, Bool.and_eq_true, decide_eq_true_eq, beq_iff_eq]
      rintro ((h1 | h2) | ⟨⟨⟨h3, h4⟩, h5⟩, h6⟩)
      · omega
      · have := h0.2.1; rw [Nat.add_zero] at this; omega
      · have := h0.2.2 h3 h4 (by omega); omega
theorem faultN_in (c : Cla) (first : Int) : ∀ (l : List Fig) (k : Nat), faultN c first k l = .ok () → ∀ (j : Nat) (x : Fig), l[j]? = some x → 0 ≤ x.n ∧ x.n ≤ mostN c.word (k + j) ∧ (c.dash = true → isPortW c.word = true → k + j = 1 → first ≤ x.n)
  | [], _, _, j, x, hx => by simp at hx
  | y :: l, k, h, j, x, hx => by
    rw [faultN] at h
    split at h
    · cases h
    · rename_i hc
      simp only [Bool.or_eq_true, Bool.and_eq_true, decide_eq_true_eq, beq_iff_eq, not_or] at hc
      cases j with
      | zero =>
        obtain rfl : y = x := by simpa using hx
        rw [Nat.add_zero]
        refine ⟨by omega, by omega, fun h1 h2 h3 => ?_⟩
        have := hc.2
        by_cases h4 : y.n < first
        · exact absurd ⟨⟨⟨h1, h2⟩, h3⟩, h4⟩ this
        · omega
      | succ j =>
        have := faultN_in c first l (k + 1) h j x (by simpa using hx)
        rw [show k + (j + 1) = k + 1 + j by omega]
        exact this
theorem faultC_ok (had : List Cla) (c : Cla) (h0 : mustN c ≠ 0) (h1 : c.nums.length = mustN c) (h2 : ∀ d ∈ had, d.word ≠ c.word) (h3 : ∀ (j : Nat) (x : Fig), c.nums[j]? = some x → 0 ≤ x.n ∧ x.n ≤ mostN c.word j ∧ (c.dash = true → isPortW c.word = true → j = 1 → nth c 0 ≤ x.n)) : faultCs had [c] = .ok () := by
  have hany : had.any (fun d => d.word == c.word) = false := by
    rw [List.any_eq_false]; intro d hd; simpa using h2 d hd
  rw [faultCs, faultC, hany, if_neg (by simp [h0, h1]), if_neg (by simp), faultN_ok c (nth c 0) c.nums 0 (fun j x hx => by rw [Nat.zero_add]; exact h3 j x hx)]
  rfl
theorem fault_A (had : List Cla) (w : List UInt8) (hw : isAddrW w = true) (hp : isPortW w = false) (ho : (w == wProto) = false) (v n : Int) (hv : 0 ≤ v ∧ v < 4294967296 ∧ 0 ≤ n ∧ n ≤ 32) (hh : ∀ d ∈ had, d.word ≠ w) : faultCs had (partA w v n) = .ok () := by
  unfold partA
  split
  · rfl
  · have hm : mustN (addrC7 w v n) = 5 := by unfold mustN; rw [show (addrC7 w v n).word = w from rfl, hw]; rfl
    have m0 : ∀ k, k < 4 → mostN w k = 255 := fun k hk => by
      unfold mostN
      rw [hp, ho, if_neg (by decide), if_neg]
      simp only [Bool.and_eq_true, beq_iff_eq]
      omega
    have m4 : mostN w 4 = 32 := by unfold mostN; rw [hp, ho]; rfl
    refine faultC_ok had _ (by rw [hm]; decide) (by rw [hm]; rfl) hh fun j x hx => ?_
    show 0 ≤ x.n ∧ x.n ≤ mostN w j ∧ _
    refine ⟨?_, ?_, fun h => by cases h⟩
    all_goals
      rcases j with _ | _ | _ | _ | _ | j
      · obtain rfl : fig0 (v / 16777216) = x := by simpa [addrC7] using hx
        first | (rw [m0 0 (by omega)]; simp only [fig0]; omega) | (simp only [fig0]; omega)
      · obtain rfl : fig0 (v / 65536 % 256) = x := by simpa [addrC7] using hx
        first | (rw [m0 1 (by omega)]; simp only [fig0]; omega) | (simp only [fig0]; omega)
      · obtain rfl : fig0 (v / 256 % 256) = x := by simpa [addrC7] using hx
        first | (rw [m0 2 (by omega)]; simp only [fig0]; omega) | (simp only [fig0]; omega)
      · obtain rfl : fig0 (v % 256) = x := by simpa [addrC7] using hx
        first | (rw [m0 3 (by omega)]; simp only [fig0]; omega) | (simp only [fig0]; omega)
      · obtain rfl : fig0 n = x := by simpa [addrC7] using hx
        first | (rw [m4]; simp only [fig0]; omega) | (simp only [fig0]; omega)
      · simp [addrC7] at hx
theorem fault_P (had : List Cla) (w : List UInt8) (hp : isPortW w = true) (a b : Int) (hv : 0 ≤ a ∧ a ≤ b ∧ b ≤ 65535) (hh : ∀ d ∈ had, d.word ≠ w) : faultCs had (partP w a b) = .ok () := by
  unfold partP
  split
  · rfl
  · have ha := portW_not hp
    have m : ∀ k, mostN w k = 65535 := fun k => by unfold mostN; rw [hp]; rfl
    by_cases e : a = b
    · subst e
      have hc : portC7 w a a = ⟨w, 0, [fig0 a], false, false⟩ := by simp [portC7]
      rw [hc]
      have hm : mustN ⟨w, 0, [fig0 a], false, false⟩ = 1 := by unfold mustN; simp [ha, hp]
      refine faultC_ok had _ (by rw [hm]; decide) (by rw [hm]; rfl) hh fun j x hx => ?_
      show 0 ≤ x.n ∧ x.n ≤ mostN w j ∧ _
      rw [m]
      rcases j with _ | j
      · obtain rfl : fig0 a = x := by simpa using hx
        exact ⟨hv.1, hv.2.2, fun h => by cases h⟩
      · simp at hx
    · have hc : portC7 w a b = ⟨w, 0, [fig0 a, fig0 b], false, true⟩ := by simp [portC7, e]
      rw [hc]
      have hm : mustN ⟨w, 0, [fig0 a, fig0 b], false, true⟩ = 2 := by unfold mustN; simp [ha, hp]
      refine faultC_ok had _ (by rw [hm]; decide) (by rw [hm]; rfl) hh fun j x hx => ?_
      show 0 ≤ x.n ∧ x.n ≤ mostN w j ∧ _
      rw [m]
      rcases j with _ | _ | j
      · obtain rfl : fig0 a = x := by simpa using hx
        exact ⟨hv.1, by simp only [fig0]; omega, fun _ _ h => by cases h⟩
      · obtain rfl : fig0 b = x := by simpa using hx
        exact ⟨by simp only [fig0]; omega, hv.2.2, fun _ _ _ => hv.2.1⟩
      · simp at hx
theorem must_proto (p : Int) : mustN ⟨wProto, 0, [fig0 p], false, false⟩ = 1 := by
  unfold mustN
  rw [show isAddrW wProto = false from by decide, show isPortW wProto = false from by decide]
  rfl
theorem fault_O (had : List Cla) (p : Int) (hv : -1 ≤ p ∧ p ≤ 255) (hh : ∀ d ∈ had, d.word ≠ wProto) : faultCs had (partO p) = .ok () := by
  unfold partO
  split
  · rfl
  · rename_i hne
    refine faultC_ok had _ (by rw [must_proto]; decide) (by rw [must_proto]; rfl) hh fun j x hx => ?_
    rcases j with _ | j
    · obtain rfl : fig0 p = x := by simpa using hx
      exact ⟨by simp only [fig0]; omega, by show p ≤ 255; omega, fun h => by cases h⟩
    · simp at hx
/-- An entry's line has no fault. -/
theorem fault_line (x : Ent) (h : okE x) (hd : x.dflt = false) : faultR (lineOf x) = .ok () := by
  unfold faultR
  rw [if_neg (by have := h.prio; show ¬ (decide (x.prio < 0) || decide (65535 < x.prio)) = true; simp; omega), lineOf_clauses hd]
  unfold lineC
  rw [faultCs_append, fault_A [] wSrc (by decide) (by decide) (by decide) _ _ h.src (fun d hd => by simp at hd)]
  simp only [Except.bind]
  rw [faultCs_append, fault_A _ wDst (by decide) (by decide) (by decide) _ _ h.dst (fun d hd => by
    rw [List.nil_append] at hd; rw [partA_word hd]; decide)]
  simp only [Except.bind]
  rw [faultCs_append, fault_P _ wSport (by decide) _ _ h.sp (fun d hd => by
    simp only [List.nil_append, List.mem_append] at hd
    rcases hd with hd | hd <;> rw [partA_word hd] <;> decide)]
  simp only [Except.bind]
  rw [faultCs_append, fault_P _ wDport (by decide) _ _ h.dp (fun d hd => by
    simp only [List.nil_append, List.mem_append] at hd
    rcases hd with (hd | hd) | hd
    · rw [partA_word hd]; decide
    · rw [partA_word hd]; decide
    · rw [partP_word hd]; decide)]
  simp only [Except.bind]
  exact fault_O _ _ (h.proto hd) (fun d hd => by
    simp only [List.nil_append, List.mem_append] at hd
    rcases hd with ((hd | hd) | hd) | hd
    · rw [partA_word hd]; decide
    · rw [partA_word hd]; decide
    · rw [partP_word hd]; decide
    · rw [partP_word hd]; decide)

def goodC (c : Cla) : Prop := mustN c ≠ 0 ∧ c.nums.length = mustN c ∧ ∀ (j : Nat) (x : Fig), c.nums[j]? = some x → 0 ≤ x.n ∧ x.n ≤ mostN c.word j ∧ (c.dash = true → isPortW c.word = true → j = 1 → nth c 0 ≤ x.n)
theorem bindI {α β : Type} {x : ResI α} {f : α → ResI β} {b : β} (h : x.bind f = .ok b) : ∃ a, x = .ok a ∧ f a = .ok b := by
  cases x with
  | error e => simp [Except.bind] at h
  | ok a => exact ⟨a, rfl, h⟩
theorem mapI {α β : Type} {x : ResI α} {f : α → β} {b : β} (h : x.map f = .ok b) : ∃ a, x = .ok a ∧ f a = b := by
  cases x with
  | error e => simp [Except.map] at h
  | ok a => exact ⟨a, rfl, Except.ok.inj h⟩
theorem faultCs_in : ∀ (l had : List Cla), faultCs had l = .ok () → ∀ c ∈ l, goodC c
  | [], _, _, c, hc => by simp at hc
  | d :: l, had, h, c, hc => by
    rw [faultCs] at h
    obtain ⟨_, h1, h2⟩ := bindI h
    rcases List.mem_cons.1 hc with rfl | hc
    · unfold faultC at h1
      split at h1
      · cases h1
      · rename_i hm
        split at h1
        · cases h1
        · simp only [Bool.or_eq_true, beq_iff_eq, bne_iff_ne, ne_eq, not_or, Decidable.not_not] at hm
          refine ⟨hm.1, hm.2, fun j x hx => ?_⟩
          have := faultN_in c (nth c 0) c.nums 0 h1 j x hx
          rw [Nat.zero_add] at this
          exact this
    · exact faultCs_in l (had ++ [d]) h2 c hc
theorem nth_in {c : Cla} (h : goodC c) {k : Nat} (hk : k < mustN c) : 0 ≤ nth c k ∧ nth c k ≤ mostN c.word k ∧ (c.dash = true → isPortW c.word = true → k = 1 → nth c 0 ≤ nth c k) := by
  have hl : k < c.nums.length := by rw [h.2.1]; exact hk
  have hx : c.nums[k]? = some c.nums[k] := List.getElem?_eq_getElem hl
  have e : nth c k = c.nums[k].n := by unfold nth; rw [List.getD_eq_getElem?_getD, hx]; rfl
  rw [e]
  exact h.2.2 k _ hx
theorem find_in {w : List UInt8} {l : List Cla} {c : Cla} (h : findC w l = some c) : c ∈ l ∧ c.word = w := by
  unfold findC at h
  exact ⟨List.mem_of_find?_eq_some h, by simpa using List.find?_some h⟩
theorem pre_in {l : List Cla} (hl : ∀ c ∈ l, goodC c) (w : List UInt8) (hw : isAddrW w = true) (hp : isPortW w = false) (ho : (w == wProto) = false) : 0 ≤ (preOf l w).1 ∧ (preOf l w).1 < 4294967296 ∧ 0 ≤ (preOf l w).2 ∧ (preOf l w).2 ≤ 32 := by
  unfold preOf
  cases hf : findC w l with
  | none => simp
  | some c =>
    obtain ⟨hc, hcw⟩ := find_in hf
    have hg := hl c hc
    have hm : mustN c = if c.slash then 5 else 4 := by unfold mustN; rw [hcw, if_pos hw]
    have m0 : ∀ k, k < 4 → mostN w k = 255 := fun k hk => by
      unfold mostN
      rw [hp, ho, if_neg (by decide), if_neg]
      simp only [Bool.and_eq_true, beq_iff_eq]
      omega
    have m4 : mostN w 4 = 32 := by unfold mostN; rw [hp, ho]; rfl
    have b : ∀ k, k < 4 → 0 ≤ nth c k ∧ nth c k ≤ 255 := fun k hk => by
      have := nth_in hg (k := k) (by rw [hm]; split <;> omega)
      rw [hcw, m0 k hk] at this
      exact ⟨this.1, this.2.1⟩
    have b0 := b 0 (by omega)
    have b1 := b 1 (by omega)
    have b2 := b 2 (by omega)
    have b3 := b 3 (by omega)
    show 0 ≤ ((nth c 0 * 256 + nth c 1) * 256 + nth c 2) * 256 + nth c 3 ∧ ((nth c 0 * 256 + nth c 1) * 256 + nth c 2) * 256 + nth c 3 < 4294967296 ∧ 0 ≤ (if c.slash then nth c 4 else 32) ∧ (if c.slash then nth c 4 else 32) ≤ 32
    refine ⟨by omega, by omega, ?_⟩
    cases hsl : c.slash with
    | false => simp
    | true =>
      have := nth_in hg (k := 4) (by rw [hm, hsl]; decide)
      rw [hcw, m4] at this
      simpa using ⟨this.1, this.2.1⟩
theorem por_in {l : List Cla} (hl : ∀ c ∈ l, goodC c) (w : List UInt8) (hp : isPortW w = true) : 0 ≤ (porOf l w).1 ∧ (porOf l w).1 ≤ (porOf l w).2 ∧ (porOf l w).2 ≤ 65535 := by
  unfold porOf
  cases hf : findC w l with
  | none => simp
  | some c =>
    obtain ⟨hc, hcw⟩ := find_in hf
    have hg := hl c hc
    have hm : mustN c = if c.dash then 2 else 1 := by unfold mustN; rw [hcw, portW_not hp, hp]; rfl
    have m : ∀ k, mostN w k = 65535 := fun k => by unfold mostN; rw [hp]; rfl
    have b0 := nth_in hg (k := 0) (by rw [hm]; split <;> omega)
    rw [hcw, m] at b0
    show 0 ≤ nth c 0 ∧ nth c 0 ≤ (if c.dash then nth c 1 else nth c 0) ∧ (if c.dash then nth c 1 else nth c 0) ≤ 65535
    cases hda : c.dash with
    | false => simpa using ⟨b0.1, b0.2.1⟩
    | true =>
      have b1 := nth_in hg (k := 1) (by rw [hm, hda]; decide)
      rw [hcw, m] at b1
      have := b1.2.2 hda hp rfl
      simpa using ⟨b0.1, this, b1.2.1⟩
theorem pro_in {l : List Cla} (hl : ∀ c ∈ l, goodC c) : -1 ≤ proOf l ∧ proOf l ≤ 255 := by
  unfold proOf
  cases hf : findC wProto l with
  | none => simp
  | some c =>
    obtain ⟨hc, hcw⟩ := find_in hf
    have hg := hl c hc
    have hm : mustN c = 1 := by
      unfold mustN
      rw [hcw, show isAddrW wProto = false from by decide, show isPortW wProto = false from by decide]
      rfl
    have b0 := nth_in hg (k := 0) (by rw [hm]; decide)
    rw [hcw, show mostN wProto 0 = 255 from by decide] at b0
    show -1 ≤ nth c 0 ∧ nth c 0 ≤ 255
    omega
/-- What a line without faults means is as it may be. -/
theorem okE_meaning (r : Raw) (hf : r.dflt = false → faultR r = .ok ()) (hp : r.drop = false → 1 ≤ r.port.n ∧ r.port.n ≤ 99) : okE (meaning r) ∧ (meaning r).dflt = r.dflt := by
  have hact : 0 ≤ actOf r ∧ actOf r ≤ 99 := by
    unfold actOf
    cases hd : r.drop with
    | true => simp
    | false => have := hp hd; simp; omega
  unfold meaning
  cases hd : r.dflt with
  | true =>
    rw [if_pos rfl]
    exact ⟨⟨hact, fun _ => rfl, by simp, by simp, by simp, by simp, by simp, fun h => by cases h⟩, rfl⟩
  | false =>
    rw [if_neg (by decide)]
    have h1 := hf hd
    unfold faultR at h1
    split at h1
    · cases h1
    · rename_i hpr
      simp only [Bool.or_eq_true, decide_eq_true_eq, not_or] at hpr
      have hl := faultCs_in r.clauses [] h1
      exact ⟨⟨hact, (fun h => by cases h), ⟨by show 0 ≤ r.prio.n; omega, by show r.prio.n ≤ 65535; omega⟩, pre_in hl wSrc (by decide) (by decide) (by decide), pre_in hl wDst (by decide) (by decide) (by decide), por_in hl wSport (by decide), por_in hl wDport (by decide), fun _ => pro_in hl⟩, rfl⟩
/-- What was checked is, as it would be written, checked as the same. -/
theorem check_lines (size size' : Int) : ∀ (R : List Raw) (i : Nat) (had : Bool) (l : List Ent), checkGo size i had R = .ok l → (∀ x ∈ l, okE x) ∧ checkGo size' i had (l.map lineOf) = .ok l ∧ l.length = R.length ∧ i + R.length ≤ 64 ∨ R = [] ∧ had = true ∧ l = []
  | [], i, had, l, h => by
    rw [checkGo] at h
    split at h
    · rename_i hh
      obtain rfl : [] = l := Except.ok.inj h
      exact .inr ⟨rfl, hh, rfl⟩
    · cases h
  | r :: R, i, had, l, h => by
    left
    rw [checkGo] at h
    split at h
    · cases h
    rename_i hi
    split at h
    · cases h
    rename_i hdh
    obtain ⟨_, h1, ha⟩ := bindI h
    split at ha
    · cases ha
    rename_i hport
    obtain ⟨m, h2, hb⟩ := mapI ha
    subst hb
    have hf : r.dflt = false → faultR r = .ok () := fun hd => by rw [hd, if_neg (by decide)] at h1; exact h1
    have hp : r.drop = false → 1 ≤ r.port.n ∧ r.port.n ≤ 99 := fun hd => by
      rw [hd] at hport
      simp only [Bool.not_false, Bool.true_and, Bool.or_eq_true, decide_eq_true_eq, not_or] at hport
      omega
    obtain ⟨hok, hdf⟩ := okE_meaning r hf hp
    have hm := meaning_line _ hok
    have tail : (∀ x ∈ m, okE x) ∧ checkGo size' (i + 1) (had || r.dflt) (m.map lineOf) = .ok m ∧ m.length = R.length ∧ i + 1 + R.length ≤ 64 := by
      rcases check_lines size size' R (i + 1) (had || r.dflt) m h2 with ⟨a1, a2, a3, a4⟩ | ⟨rfl, b2, rfl⟩
      · exact ⟨a1, a2, a3, a4⟩
      · refine ⟨fun x hx => by simp at hx, ?_, rfl, by simp; omega⟩
        rw [List.map_nil, checkGo, if_pos b2]
    refine ⟨fun x hx => ?_, ?_, by simp [tail.2.2.1], by have := tail.2.2.2; simp; omega⟩
    · rcases List.mem_cons.1 hx with rfl | hx
      · exact hok
      · exact tail.1 x hx
    · have hd2 : (lineOf (meaning r)).dflt = r.dflt := hdf
      have hfl : (if (lineOf (meaning r)).dflt then (Except.ok () : ResI Unit) else faultR (lineOf (meaning r))) = .ok () := by
        cases hd : r.dflt with
        | true => rw [hd2, hd, if_pos rfl]
        | false => rw [hd2, hd, if_neg (by decide)]; exact fault_line _ hok (hdf.trans hd)
      have hpl : (!(lineOf (meaning r)).drop && (decide ((lineOf (meaning r)).port.n < 1) || decide (99 < (lineOf (meaning r)).port.n))) = false := by
        have := hok.act
        show (!decide ((meaning r).action = 0) && (decide ((meaning r).action < 1) || decide (99 < (meaning r).action))) = false
        by_cases c : (meaning r).action = 0
        · simp [c]
        · simp [c]; omega
      rw [List.map_cons, checkGo, if_neg hi, hd2, if_neg hdh]
      rw [hd2] at hfl
      rw [hfl]
      simp only [Except.bind]
      rw [hpl, if_neg (by decide), tail.2.1, hm]
      rfl
/-- Places do not count where nothing is wrong. -/
theorem faultN_same (c c' : Cla) (hw : c.word = c'.word) (hd : c.dash = c'.dash) (first : Int) : ∀ (l l' : List Fig) (k : Nat), l.map (·.n) = l'.map (·.n) → faultN c first k l = .ok () → faultN c' first k l' = .ok ()
  | [], [], _, _, _ => rfl
  | [], _ :: _, _, h, _ => by simp at h
  | _ :: _, [], _, h, _ => by simp at h
  | x :: l, y :: l', k, h, hx => by
    rw [List.map_cons, List.map_cons] at h
    obtain ⟨h1, h2⟩ := List.cons.inj h
    rw [faultN] at hx ⊢
    split at hx
    · cases hx
    · rename_i hc
      rw [← h1, ← hw, ← hd, if_neg hc]
      exact faultN_same c c' hw hd first l l' (k + 1) h2 hx
theorem nth_same {c c' : Cla} (h : c.nums.map (·.n) = c'.nums.map (·.n)) (k : Nat) : nth c k = nth c' k := by
  have h1 := congrArg (fun l => l[k]?) h
  simp only [List.getElem?_map] at h1
  unfold nth
  rw [List.getD_eq_getElem?_getD, List.getD_eq_getElem?_getD]
  cases h2 : c.nums[k]? with
  | none => rw [h2] at h1; cases h3 : c'.nums[k]? with
    | none => rfl
    | some y => rw [h3] at h1; simp at h1
  | some x => rw [h2] at h1; cases h3 : c'.nums[k]? with
    | none => rw [h3] at h1; simp at h1
    | some y => rw [h3] at h1; simpa using h1
theorem any_same (w : List UInt8) : ∀ l l' : List Cla, l.map clC = l'.map clC → l.any (fun d => d.word == w) = l'.any (fun d => d.word == w)
  | [], [], _ => rfl
  | [], _ :: _, h => by simp at h
  | _ :: _, [], h => by simp at h
  | c :: l, c' :: l', h => by
    rw [List.map_cons, List.map_cons] at h
    obtain ⟨h1, h2⟩ := List.cons.inj h
    rw [List.any_cons, List.any_cons, any_same w l l' h2, show c.word = c'.word from congrArg Prod.fst h1]
theorem faultCs_same : ∀ (l l' had had' : List Cla), had.map clC = had'.map clC → l.map clC = l'.map clC → faultCs had l = .ok () → faultCs had' l' = .ok ()
  | [], [], _, _, _, _, _ => rfl
  | [], _ :: _, _, _, _, h, _ => by simp at h
  | _ :: _, [], _, _, _, h, _ => by simp at h
  | c :: l, c' :: l', had, had', hh, h, hx => by
    rw [List.map_cons, List.map_cons] at h
    obtain ⟨h1, h2⟩ := List.cons.inj h
    have hq := h1
    unfold clC at hq
    simp only [Prod.mk.injEq] at hq
    obtain ⟨q1, q2, q3, q4⟩ := hq
    rw [faultCs] at hx ⊢
    obtain ⟨_, e1, e2⟩ := bindI hx
    have hm : mustN c = mustN c' := by unfold mustN; rw [q1, q3, q4]
    have hl : c.nums.length = c'.nums.length := by simpa using congrArg List.length q2
    have : faultC had' c' = .ok () := by
      unfold faultC at e1 ⊢
      rw [← hm, ← hl, ← any_same c'.word had had' hh, ← q1]
      split at e1
      · cases e1
      · rename_i ha
        rw [if_neg ha]
        split at e1
        · cases e1
        · rename_i hb
          rw [if_neg hb, ← nth_same q2]
          exact faultN_same c c' q1 q4 _ _ _ 0 q2 e1
    rw [this]
    exact faultCs_same l l' (had ++ [c]) (had' ++ [c']) (by rw [List.map_append, List.map_append, hh, List.map_singleton, List.map_singleton, h1]) h2 e2
theorem find_same (w : List UInt8) : ∀ l l' : List Cla, l.map clC = l'.map clC → (findC w l).map clC = (findC w l').map clC
  | [], [], _ => rfl
  | [], _ :: _, h => by simp at h
  | _ :: _, [], h => by simp at h
  | c :: l, c' :: l', h => by
    rw [List.map_cons, List.map_cons] at h
    obtain ⟨h1, h2⟩ := List.cons.inj h
    have hw : c.word = c'.word := congrArg Prod.fst h1
    have ih := find_same w l l' h2
    unfold findC at ih ⊢
    rw [List.find?_cons, List.find?_cons, hw]
    cases (c'.word == w)
    · exact ih
    · simp [h1]
theorem find_cases {w : List UInt8} {l l' : List Cla} (h : l.map clC = l'.map clC) : (findC w l = none ∧ findC w l' = none) ∨ ∃ c c', findC w l = some c ∧ findC w l' = some c' ∧ clC c = clC c' := by
  have := find_same w l l' h
  cases h1 : findC w l with
  | none =>
    rw [h1] at this
    cases h2 : findC w l' with
    | none => exact .inl ⟨rfl, rfl⟩
    | some c' => rw [h2] at this; simp at this
  | some c =>
    rw [h1] at this
    cases h2 : findC w l' with
    | none => rw [h2] at this; simp at this
    | some c' => rw [h2] at this; exact .inr ⟨c, c', rfl, rfl, by simpa using this⟩
theorem clC_parts {c c' : Cla} (h : clC c = clC c') : (∀ k, nth c k = nth c' k) ∧ c.slash = c'.slash ∧ c.dash = c'.dash := by
  unfold clC at h
  simp only [Prod.mk.injEq] at h
  exact ⟨fun k => nth_same h.2.1 k, h.2.2.1, h.2.2.2⟩
theorem pre_same {l l' : List Cla} (h : l.map clC = l'.map clC) (w : List UInt8) : preOf l w = preOf l' w := by
  unfold preOf
  rcases find_cases (w := w) h with ⟨h1, h2⟩ | ⟨c, c', h1, h2, h3⟩
  · rw [h1, h2]
  · obtain ⟨p1, p2, _⟩ := clC_parts h3
    rw [h1, h2]
    simp only [p1, p2]
theorem por_same {l l' : List Cla} (h : l.map clC = l'.map clC) (w : List UInt8) : porOf l w = porOf l' w := by
  unfold porOf
  rcases find_cases (w := w) h with ⟨h1, h2⟩ | ⟨c, c', h1, h2, h3⟩
  · rw [h1, h2]
  · obtain ⟨p1, _, p3⟩ := clC_parts h3
    rw [h1, h2]
    simp only [p1, p3]
theorem pro_same {l l' : List Cla} (h : l.map clC = l'.map clC) : proOf l = proOf l' := by
  unfold proOf
  rcases find_cases (w := wProto) h with ⟨h1, h2⟩ | ⟨c, c', h1, h2, h3⟩
  · rw [h1, h2]
  · obtain ⟨p1, _, _⟩ := clC_parts h3
    rw [h1, h2]
    simp only [p1]
theorem check_same (size size' : Int) : ∀ (R R' : List Raw) (i : Nat) (had : Bool) (l : List Ent), R.map clR = R'.map clR → checkGo size i had R = .ok l → checkGo size' i had R' = .ok l
  | [], [], i, had, l, _, h => by
    rw [checkGo] at h ⊢
    split at h
    · rename_i hh; rw [if_pos hh]; exact h
    · cases h
  | [], _ :: _, _, _, _, h, _ => by simp at h
  | _ :: _, [], _, _, _, h, _ => by simp at h
  | r :: R, r' :: R', i, had, l, hR, h => by
    rw [List.map_cons, List.map_cons] at hR
    obtain ⟨h1, h2⟩ := List.cons.inj hR
    unfold clR at h1
    simp only [Prod.mk.injEq] at h1
    obtain ⟨q1, q2, q3, q4, q5⟩ := h1
    rw [checkGo] at h ⊢
    split at h
    · cases h
    rename_i hi
    split at h
    · cases h
    rename_i hdh
    obtain ⟨_, e1, ha⟩ := bindI h
    split at ha
    · cases ha
    rename_i hport
    obtain ⟨m, e2, hb⟩ := mapI ha
    subst hb
    have hm : meaning r = meaning r' := by
      unfold meaning actOf
      rw [q1, q2, q4, q5, pre_same q3, pre_same q3, por_same q3, por_same q3, pro_same q3]
    have hf : (if r'.dflt then (Except.ok () : ResI Unit) else faultR r') = .ok () := by
      rw [← q1]
      cases hd : r.dflt with
      | true => rfl
      | false =>
        rw [hd, if_neg (by decide)] at e1
        rw [if_neg (by decide)]
        unfold faultR at e1 ⊢
        rw [← q2]
        split at e1
        · cases e1
        · rename_i hpr
          rw [if_neg hpr]
          exact faultCs_same _ _ [] [] rfl q3 e1
    rw [if_neg hi, ← q1, if_neg hdh]
    rw [← q1] at hf
    rw [hf]
    simp only [Except.bind]
    rw [← q4, ← q5, if_neg hport, check_same size size' R R' (i + 1) (had || r.dflt) m h2 e2, hm]
    rfl
/-- WHAT WAS READ IS PRINTED TO A TEXT THAT IS READ AS THE SAME. -/
theorem sense_back {S : List UInt8} {l : List Ent} (h : readT S = .ok l) (hlen : (printE l).length ≤ 4096) : readT (printE l) = .ok l := by
  unfold readT at h
  cases hp : parseT S with
  | error x => rw [hp] at h; cases h
  | ok R =>
    rw [hp] at h
    rcases check_lines _ ((printE l).length : Int) R 0 false l h with ⟨h1, h2, h3, h4⟩ | ⟨_, h5, _⟩
    · have hok : ∀ x ∈ l.map lineOf, okR x := fun x hx => by
        obtain ⟨y, hy, rfl⟩ := List.mem_map.1 hx
        exact okR_line y (h1 y hy)
      obtain ⟨R', e, hR'⟩ := parse_print (l.map lineOf) hok (by rw [List.length_map]; omega) hlen
      have hc := check_same _ ((printE l).length : Int) (l.map lineOf) R' 0 false l hR'.symm h2
      unfold readT
      rw [show parseT (printE l) = .ok R' from e]
      exact hc
    · cases h5
end Go.Proofs.YtnbklmmampdbfaaDoor
namespace Go.Proofs.YtnbklmmampdbfaaDoor
open Go
set_option maxRecDepth 20000

/-- Of what was checked just one entry is the default. -/
theorem check_one (size : Int) : ∀ (R : List Raw) (i : Nat) (had : Bool) (l : List Ent), checkGo size i had R = .ok l → (l.filter fun x => x.dflt).length + (if had then 1 else 0) = 1 ∧ l.length = R.length
  | [], i, had, l, h => by
    rw [checkGo] at h
    split at h
    · rename_i hh
      obtain rfl : [] = l := Except.ok.inj h
      rw [hh]; exact ⟨rfl, rfl⟩
    · cases h
  | r :: R, i, had, l, h => by
    rw [checkGo] at h
    split at h
    · cases h
    split at h
    · cases h
    rename_i hdh
    obtain ⟨_, h1, ha⟩ := bindI h
    split at ha
    · cases ha
    obtain ⟨m, h2, hb⟩ := mapI ha
    subst hb
    obtain ⟨ih, il⟩ := check_one size R (i + 1) (had || r.dflt) m h2
    have hd : (meaning r).dflt = r.dflt := by unfold meaning; cases r.dflt <;> rfl
    refine ⟨?_, by simp [il]⟩
    rw [List.filter_cons, hd]
    cases e : r.dflt with
    | false =>
      rw [e] at ih
      simpa using ih
    | true =>
      have hh : had = false := by
        rw [e, Bool.true_and] at hdh
        simpa using hdh
      rw [e, hh] at ih
      rw [hh]
      simp at ih ⊢
      exact ih
/-- What was read: entries as they may be, one of them the default. -/
theorem read_in {S : List UInt8} {l : List Ent} (h : readT S = .ok l) : (∀ x ∈ l, okE x) ∧ (l.filter fun x => x.dflt).length = 1 ∧ ∃ R, parseT S = .ok R ∧ l.length = R.length := by
  unfold readT at h
  cases hp : parseT S with
  | error x => rw [hp] at h; cases h
  | ok R =>
    rw [hp] at h
    obtain ⟨h1, h2⟩ := check_one _ R 0 false l h
    refine ⟨?_, by simpa using h1, R, rfl, h2⟩
    rcases check_lines _ 0 R 0 false l h with ⟨h3, _⟩ | ⟨_, h5, _⟩
    · exact h3
    · cases h5

/-! Which entry says something of a header: 'ap' tells whether an entry applies. -/
/-- The greatest priority that applies and isn't a default, the first of several: the place of the best so far, and its priority. -/
def beats (p : Int) : Option (Nat × Int) → Bool
  | none => true
  | some b => decide (b.2 < p)
def bestGo (ap : Ent → Bool) : Nat → Option (Nat × Int) → List Ent → Option (Nat × Int)
  | _, b, [] => b
  | i, b, x :: l => bestGo ap (i + 1) (if !x.dflt && ap x && beats x.prio b then some (i, x.prio) else b) l
def firstD : Nat → List Ent → Option Nat
  | _, [] => none
  | i, x :: l => if x.dflt then some i else firstD (i + 1) l
def whichT (ap : Ent → Bool) (l : List Ent) : Option Nat := match bestGo ap 0 none l with
  | some (i, _) => some i
  | none => firstD 0 l
theorem bestGo_in (ap : Ent → Bool) (L : List Ent) : ∀ (l : List Ent) (i : Nat) (b : Option (Nat × Int)), (∀ k, l[k]? = L[i + k]?) → (∀ j p, b = some (j, p) → ∃ x, L[j]? = some x ∧ x.prio = p ∧ x.dflt = false ∧ ap x = true) → ∀ j p, bestGo ap i b l = some (j, p) → ∃ x, L[j]? = some x ∧ x.prio = p ∧ x.dflt = false ∧ ap x = true
  | [], i, b, _, hb, j, p, h => hb j p h
  | x :: l, i, b, hL, hb, j, p, h => by
    rw [bestGo] at h
    refine bestGo_in ap L l (i + 1) _ (fun k => ?_) (fun j p hjp => ?_) j p h
    · have := hL (k + 1)
      rw [List.getElem?_cons_succ] at this
      rw [this]; congr 1; omega
    · split at hjp
      · rename_i hc
        simp only [Bool.and_eq_true, Bool.not_eq_true'] at hc
        obtain ⟨rfl, rfl⟩ := Prod.mk.inj (Option.some.inj hjp)
        have := hL 0
        simp only [List.getElem?_cons_zero, Nat.add_zero] at this
        exact ⟨x, this.symm, rfl, hc.1.1, hc.1.2⟩
      · exact hb j p hjp
theorem firstD_in : ∀ (l : List Ent) (i : Nat), (∃ x ∈ l, x.dflt = true) → ∃ k x, firstD i l = some (i + k) ∧ l[k]? = some x ∧ x.dflt = true
  | [], i, h => by obtain ⟨x, hx, _⟩ := h; simp at hx
  | y :: l, i, h => by
    rw [firstD]
    cases hy : y.dflt with
    | true => exact ⟨0, y, by rw [if_pos rfl]; rfl, rfl, hy⟩
    | false =>
      rw [if_neg (by decide)]
      obtain ⟨k, x, h1, h2, h3⟩ := firstD_in l (i + 1) (by
        obtain ⟨x, hx, hd⟩ := h
        rcases List.mem_cons.1 hx with rfl | hx
        · rw [hy] at hd; cases hd
        · exact ⟨x, hx, hd⟩)
      exact ⟨k + 1, x, by rw [h1]; congr 1; omega, by simpa using h2, h3⟩
/-- A LIST WITH A DEFAULT SAYS SOMETHING OF EVERY HEADER. -/
theorem which_some (ap : Ent → Bool) (l : List Ent) (h : ∃ x ∈ l, x.dflt = true) : ∃ i x, whichT ap l = some i ∧ l[i]? = some x := by
  unfold whichT
  cases hb : bestGo ap 0 none l with
  | some b =>
    obtain ⟨i, p⟩ := b
    obtain ⟨x, hx, _⟩ := bestGo_in ap l l 0 none (fun k => by rw [Nat.zero_add]) (fun j p hjp => by cases hjp) i p hb
    exact ⟨i, x, rfl, hx⟩
  | none =>
    obtain ⟨k, x, h1, h2, _⟩ := firstD_in l 0 h
    exact ⟨k, x, by rw [← Nat.zero_add k]; exact h1, h2⟩
end Go.Proofs.YtnbklmmampdbfaaDoor
namespace Go.Proofs.YtnbklmmampdbfaaDoor
open Go
set_option maxRecDepth 20000

/-- What a check comes to, as an error and its place. -/
def fltR : ResI Unit → Int × Int
  | .ok _ => (0, 0)
  | .error x => ((x.1 : Int), x.2)
/-- The least number at a place of a clause, as the program has it. -/
def lowN (c : Cla) (i : Nat) : Int := if isPortW c.word && decide (0 < i) then nth c 0 else 0
def numF (c : Cla) : Nat → List Fig → Int × Int
  | _, [] => (0, 0)
  | i, x :: l => if decide (x.n < lowN c i) || decide (mostN c.word i < x.n) then (10, x.pos) else numF c (i + 1) l
theorem numF_other (c : Cla) (hp : isPortW c.word = false) (first : Int) : ∀ (l : List Fig) (k : Nat), numF c k l = fltR (faultN c first k l)
  | [], _ => rfl
  | x :: l, k => by
    rw [numF, faultN]
    have e : lowN c k = 0 := by unfold lowN; rw [hp]; rfl
    rw [e, hp]
    simp only [Bool.and_false, Bool.false_and, Bool.or_false]
    split
    · rfl
    · exact numF_other c hp first l (k + 1)
theorem mustN_port {c : Cla} (hp : isPortW c.word = true) : mustN c = if c.dash then 2 else 1 := by
  unfold mustN
  rw [portW_not hp, hp]
  simp
theorem numF_all (c : Cla) (hl : c.nums.length = mustN c) : numF c 0 c.nums = fltR (faultN c (nth c 0) 0 c.nums) := by
  cases hp : isPortW c.word with
  | false => exact numF_other c hp _ _ _
  | true =>
    rw [mustN_port hp] at hl
    cases hd : c.dash with
    | false =>
      rw [hd] at hl
      obtain ⟨a, ha⟩ : ∃ a, c.nums = [a] := by
        match h : c.nums, hl with
        | [a], _ => exact ⟨a, rfl⟩
      rw [ha]
      simp only [numF, faultN, lowN, hp, hd, Bool.false_and, Bool.or_false, Bool.true_and]
      simp only [Nat.lt_irrefl, decide_false, Bool.false_eq_true, if_false]
      split <;> rfl
    | true =>
      rw [hd] at hl
      obtain ⟨a, b, ha⟩ : ∃ a b, c.nums = [a, b] := by
        match h : c.nums, hl with
        | [a, b], _ => exact ⟨a, b, rfl⟩
      have hn : nth c 0 = a.n := by unfold nth; rw [ha]; rfl
      have hm : ∀ k, mostN c.word k = 65535 := fun k => by unfold mostN; rw [hp]; rfl
      rw [ha]
      simp only [numF, faultN, lowN, hp, hd, hn, hm, Bool.true_and, Nat.zero_add]
      simp only [Nat.lt_irrefl, decide_false, Bool.false_eq_true, if_false, if_true, Nat.lt_add_one, decide_true, show ((0 : Nat) == 1) = false from rfl, show ((1 : Nat) == 1) = true from rfl, Bool.false_and, Bool.or_false, Bool.true_and]
      by_cases h1 : a.n < 0
      · simp [h1, fltR]
      · by_cases h2 : 65535 < a.n
        · simp [h2, fltR]
        · by_cases h3 : b.n < a.n
          · have h4 : (decide (b.n < 0) || decide (65535 < b.n) || true) = true := by simp
            simp [h1, h2, h3, fltR]
          · have h5 : ¬ b.n < 0 := by omega
            by_cases h6 : 65535 < b.n <;> simp [h1, h2, h3, h5, h6, fltR]

/-- What is wrong with a clause first, as the program asks. -/
def claF (had : List Cla) (c : Cla) : Int × Int :=
  if mustN c == 0 || c.nums.length != mustN c then (8, c.pos) else if had.any (fun d => d.word == c.word) then (9, c.pos) else numF c 0 c.nums
theorem claF_eq (had : List Cla) (c : Cla) : claF had c = fltR (faultC had c) := by
  unfold claF faultC
  split
  · rfl
  · rename_i h
    split
    · rfl
    · simp only [Bool.or_eq_true, beq_iff_eq, bne_iff_ne, ne_eq, not_or, Decidable.not_not] at h
      exact numF_all c h.2
theorem faultN_code (c : Cla) (first : Int) : ∀ (l : List Fig) (k e : Nat) (p : Int), faultN c first k l = .error (e, p) → e = 10
  | [], _, _, _, h => by simp [faultN] at h
  | x :: l, k, e, p, h => by
    rw [faultN] at h
    split at h
    · simp only [Except.error.injEq, Prod.mk.injEq] at h; exact h.1.symm
    · exact faultN_code c first l (k + 1) e p h
theorem faultC_code {had : List Cla} {c : Cla} {e : Nat} {p : Int} (h : faultC had c = .error (e, p)) : e ≠ 0 := by
  unfold faultC at h
  split at h
  · simp only [Except.error.injEq, Prod.mk.injEq] at h; omega
  · split at h
    · simp only [Except.error.injEq, Prod.mk.injEq] at h; omega
    · have := faultN_code _ _ _ _ _ _ h; omega
/-- What is wrong with a line's first k clauses. -/
def ruleF (r : Raw) (k : Nat) : Int × Int := if decide (r.prio.n < 0) || decide (65535 < r.prio.n) then (10, r.prio.pos) else fltR (faultCs [] (r.clauses.take k))
theorem fltR_zero {x : ResI Unit} (hc : ∀ e p, x = .error (e, p) → e ≠ 0) (h : (fltR x).1 = 0) : x = .ok () := by
  cases x with
  | ok u => rfl
  | error y =>
    obtain ⟨e, p⟩ := y
    have := hc e p rfl
    simp [fltR] at h
    exact absurd h this
theorem faultCs_code : ∀ (l had : List Cla) (e : Nat) (p : Int), faultCs had l = .error (e, p) → e ≠ 0
  | [], _, _, _, h => by simp [faultCs] at h
  | c :: l, had, e, p, h => by
    rw [faultCs] at h
    cases hc : faultC had c with
    | error y =>
      obtain ⟨e', p'⟩ := y
      rw [hc] at h
      simp only [Except.bind, Except.error.injEq, Prod.mk.injEq] at h
      have := faultC_code hc
      omega
    | ok u =>
      rw [hc] at h
      exact faultCs_code l _ e p h
theorem ruleF_next {r : Raw} {k : Nat} {c : Cla} (hc : r.clauses[k]? = some c) (h : (ruleF r k).1 = 0) : ruleF r (k + 1) = claF (r.clauses.take k) c := by
  unfold ruleF at h ⊢
  split at h
  · simp at h
  · rename_i hp
    have h1 := fltR_zero (fun e p => faultCs_code _ _ e p) h
    rw [if_neg hp, claF_eq]
    obtain ⟨hk, rfl⟩ := List.getElem?_eq_some_iff.1 hc
    rw [List.take_succ_eq_append_getElem hk, faultCs_append, h1]
    simp only [Except.bind, List.nil_append, faultCs]
    cases faultC (r.clauses.take k) r.clauses[k] <;> rfl
theorem ruleF_stays {r : Raw} {k : Nat} (h : (ruleF r k).1 ≠ 0) : ruleF r r.clauses.length = ruleF r k := by
  unfold ruleF at h ⊢
  split
  · rfl
  · rename_i hp
    rw [if_neg hp] at h
    rw [List.take_length]
    have e : r.clauses = r.clauses.take k ++ r.clauses.drop k := (List.take_append_drop k _).symm
    rw [show faultCs [] r.clauses = faultCs [] (r.clauses.take k ++ r.clauses.drop k) by rw [← e], faultCs_append]
    cases hx : faultCs [] (r.clauses.take k) with
    | error y => rfl
    | ok u => rw [hx] at h; exact absurd rfl h
theorem ruleF_all (r : Raw) : ruleF r r.clauses.length = fltR (faultR r) := by
  unfold ruleF faultR
  rw [List.take_length]
  split <;> rfl
theorem faultR_code {r : Raw} {e : Nat} {p : Int} (h : faultR r = .error (e, p)) : e ≠ 0 := by
  unfold faultR at h
  split at h
  · simp only [Except.error.injEq, Prod.mk.injEq] at h; omega
  · exact faultCs_code _ _ _ _ h
def lineF (r : Raw) : Int × Int := if r.dflt then (0, 0) else fltR (faultR r)
def actF (r : Raw) : Int × Int := if !r.drop && (decide (r.port.n < 1) || decide (99 < r.port.n)) then (10, r.port.pos) else (0, 0)
def orF (a b : Int × Int) : Int × Int := if a.1 = 0 then b else a
/-- What is wrong with line i first. -/
def rowF (i : Nat) (had : Bool) (r : Raw) : Int × Int :=
  orF (if 64 ≤ i then (4, r.pos) else (0, 0)) (orF (if had && r.dflt then (9, r.pos) else (0, 0)) (orF (lineF r) (orF (actF r) (0, 0))))
theorem check_nil (size : Int) (i : Nat) (had : Bool) : checkGo size i had [] = if had then .ok [] else .error (11, size) := rfl
theorem check_bad (size : Int) (i : Nat) (had : Bool) (r : Raw) (l : List Raw) (h : (rowF i had r).1 ≠ 0) : ∃ e : Nat, checkGo size i had (r :: l) = .error (e, (rowF i had r).2) ∧ (rowF i had r).1 = (e : Int) := by
  rw [checkGo]
  unfold rowF orF at h ⊢
  by_cases h1 : 64 ≤ i
  · rw [if_pos h1]
    exact ⟨4, by simp [h1], by simp [h1]⟩
  · rw [if_neg h1] at h ⊢
    simp only [if_true, h1, if_false] at h ⊢
    by_cases h2 : (had && r.dflt) = true
    · have h2' : (r.dflt && had) = true := by rw [Bool.and_comm]; exact h2
      exact ⟨9, by simp [h2, h2'], by simp [h2]⟩
    · have h2' : (r.dflt && had) = false := by rw [Bool.and_comm]; simpa using h2
      have h2f : (had && r.dflt) = false := by simpa using h2
      rw [h2f] at h ⊢
      simp only [h2', Bool.false_eq_true, if_false, if_true] at h ⊢
      cases hd : r.dflt with
      | true =>
        have hl : lineF r = (0, 0) := by unfold lineF; rw [hd]; rfl
        rw [hl] at h ⊢
        simp only [if_true] at h ⊢
        unfold actF at h ⊢
        by_cases h3 : (!r.drop && (decide (r.port.n < 1) || decide (99 < r.port.n))) = true
        · refine ⟨10, ?_, ?_⟩
          · simp only [h3, Except.bind, if_true]
            simp
          · simp [h3]
        · simp [h3] at h
      | false =>
        have hl : lineF r = fltR (faultR r) := by unfold lineF; rw [hd]; rfl
        rw [hl] at h ⊢
        cases hf : faultR r with
        | error y =>
          obtain ⟨e, p⟩ := y
          have hne := faultR_code hf
          exact ⟨e, by simp [fltR, hne, Except.bind], by simp [fltR, hne]⟩
        | ok u =>
          rw [hf] at h
          simp only [fltR, if_true] at h ⊢
          unfold actF at h ⊢
          by_cases h3 : (!r.drop && (decide (r.port.n < 1) || decide (99 < r.port.n))) = true
          · refine ⟨10, ?_, ?_⟩
            · simp only [h3, Except.bind, if_true]
              simp
            · simp [h3]
          · simp [h3] at h
/-- A line that is right. -/
structure rightR (r : Raw) : Prop where
  rule : r.dflt = false → faultR r = .ok ()
  act : r.drop = false → 1 ≤ r.port.n ∧ r.port.n ≤ 99
theorem check_good (size : Int) (i : Nat) (had : Bool) (r : Raw) (l : List Raw) (h : (rowF i had r).1 = 0) : checkGo size i had (r :: l) = (checkGo size (i + 1) (had || r.dflt) l).map (fun m => meaning r :: m) ∧ rightR r ∧ i < 64 := by
  rw [checkGo]
  unfold rowF orF at h
  by_cases h1 : 64 ≤ i
  · simp [h1] at h
  · simp only [h1, if_false, if_true] at h ⊢
    by_cases h2 : (had && r.dflt) = true
    · simp [h2] at h
    · have h2' : (r.dflt && had) = false := by rw [Bool.and_comm]; simpa using h2
      have h2f : (had && r.dflt) = false := by simpa using h2
      rw [h2f] at h
      simp only [h2', Bool.false_eq_true, if_false, if_true] at h ⊢
      have hline : (lineF r).1 = 0 := by
        by_cases hz : (lineF r).1 = 0
        · exact hz
        · rw [if_neg hz] at h; exact h
      rw [if_pos hline] at h
      have hact : (!r.drop && (decide (r.port.n < 1) || decide (99 < r.port.n))) = false := by
        unfold actF at h
        by_cases h3 : (!r.drop && (decide (r.port.n < 1) || decide (99 < r.port.n))) = true
        · simp [h3] at h
        · simpa using h3
      have hrule : r.dflt = false → faultR r = .ok () := fun hd => by
        unfold lineF at hline
        rw [hd] at hline
        exact fltR_zero (fun e p he => faultR_code he) hline
      refine ⟨?_, ⟨hrule, fun hd => ?_⟩, by omega⟩
      · have e1 : (if r.dflt = true then (.ok () : ResI Unit) else faultR r) = .ok () := by
          cases hd : r.dflt with
          | true => rfl
          | false => exact hrule hd
        rw [e1, hact]
        rfl
      · rw [hd] at hact
        simp at hact
        omega

/-! What a line means, clause by clause. -/
def preC (c : Cla) : Int × Int := (((nth c 0 * 256 + nth c 1) * 256 + nth c 2) * 256 + nth c 3, if c.slash then nth c 4 else 32)
def porC (c : Cla) : Int × Int := (nth c 0, nth c (c.nums.length - 1))
def setC (x : Ent) (c : Cla) : Ent :=
  if c.word = wSrc then { x with src := (preC c).1, srcBits := (preC c).2 }
  else if c.word = wDst then { x with dst := (preC c).1, dstBits := (preC c).2 }
  else if c.word = wSport then { x with slow := (porC c).1, shigh := (porC c).2 }
  else if c.word = wDport then { x with dlow := (porC c).1, dhigh := (porC c).2 }
  else if c.word = wProto then { x with proto := nth c 0 } else x
def ent0 (r : Raw) : Ent := ⟨false, r.prio.n, actOf r, 0, 0, 0, 0, 0, 65535, 0, 65535, -1⟩
def over (x : Ent) (l : List Cla) : Ent :=
  { x with
    src := match findC wSrc l with | none => x.src | some c => (preC c).1
    srcBits := match findC wSrc l with | none => x.srcBits | some c => (preC c).2
    dst := match findC wDst l with | none => x.dst | some c => (preC c).1
    dstBits := match findC wDst l with | none => x.dstBits | some c => (preC c).2
    slow := match findC wSport l with | none => x.slow | some c => (porC c).1
    shigh := match findC wSport l with | none => x.shigh | some c => (porC c).2
    dlow := match findC wDport l with | none => x.dlow | some c => (porC c).1
    dhigh := match findC wDport l with | none => x.dhigh | some c => (porC c).2
    proto := match findC wProto l with | none => x.proto | some c => nth c 0 }
theorem find_cons (w : List UInt8) (c : Cla) (l : List Cla) : findC w (c :: l) = if c.word = w then some c else findC w l := by
  unfold findC
  rw [List.find?_cons]
  by_cases h : c.word = w
  · simp [h]
  · have : (c.word == w) = false := by simpa using h
    simp [this, h]
theorem find_not {w : List UInt8} {c : Cla} {l : List Cla} (h : ∀ d ∈ l, c.word ≠ d.word) (hw : c.word = w) : findC w l = none := by
  unfold findC
  rw [List.find?_eq_none]
  intro d hd
  have := h d hd
  simp
  rw [← hw]
  exact fun e => this e.symm
theorem fold_over : ∀ (l : List Cla), (l.Pairwise fun a b => a.word ≠ b.word) → ∀ x : Ent, l.foldl setC x = over x l
  | [], _, x => rfl
  | c :: l, hp, x => by
    obtain ⟨h1, h2⟩ := List.pairwise_cons.1 hp
    rw [List.foldl_cons, fold_over l h2]
    unfold over
    simp only [find_cons]
    have nn := fun w (hw : c.word = w) => find_not (w := w) h1 hw
    by_cases e1 : c.word = wSrc
    · have := nn _ e1
      simp only [setC, e1, this, show ¬ wSrc = wDst by decide, show ¬ wSrc = wSport by decide, show ¬ wSrc = wDport by decide, show ¬ wSrc = wProto by decide, if_true, if_false]
    by_cases e2 : c.word = wDst
    · have := nn _ e2
      simp only [setC, e2, this, show ¬ wDst = wSrc by decide, show ¬ wDst = wSport by decide, show ¬ wDst = wDport by decide, show ¬ wDst = wProto by decide, if_true, if_false]
    by_cases e3 : c.word = wSport
    · have := nn _ e3
      simp only [setC, e3, this, show ¬ wSport = wSrc by decide, show ¬ wSport = wDst by decide, show ¬ wSport = wDport by decide, show ¬ wSport = wProto by decide, if_true, if_false]
    by_cases e4 : c.word = wDport
    · have := nn _ e4
      simp only [setC, e4, this, show ¬ wDport = wSrc by decide, show ¬ wDport = wSport by decide, show ¬ wDport = wDst by decide, show ¬ wDport = wProto by decide, if_true, if_false]
    by_cases e5 : c.word = wProto
    · have := nn _ e5
      simp only [setC, e5, this, show ¬ wProto = wSrc by decide, show ¬ wProto = wSport by decide, show ¬ wProto = wDst by decide, show ¬ wProto = wDport by decide, if_true, if_false]
    simp only [setC, e1, e2, e3, e4, e5, if_false]
theorem faultCs_apart : ∀ (l had : List Cla), faultCs had l = .ok () → (l.Pairwise fun a b => a.word ≠ b.word) ∧ ∀ d ∈ had, ∀ c ∈ l, d.word ≠ c.word
  | [], _, _ => ⟨List.Pairwise.nil, fun _ _ c hc => by simp at hc⟩
  | c :: l, had, h => by
    rw [faultCs] at h
    obtain ⟨_, h1, h2⟩ := bindI h
    obtain ⟨i1, i2⟩ := faultCs_apart l (had ++ [c]) h2
    have hn : had.any (fun d => d.word == c.word) = false := by
      unfold faultC at h1
      split at h1
      · cases h1
      · split at h1
        · cases h1
        · rename_i hz; simpa using hz
    refine ⟨List.pairwise_cons.2 ⟨fun d hd => i2 c (by simp) d hd, i1⟩, fun d hd e he => ?_⟩
    rcases List.mem_cons.1 he with rfl | he
    · rw [List.any_eq_false] at hn
      have := hn d hd
      simpa using this
    · exact i2 d (by simp [hd]) e he
theorem por_last {c : Cla} (h : goodC c) (hp : isPortW c.word = true) : porC c = (nth c 0, if c.dash then nth c 1 else nth c 0) := by
  unfold porC
  rw [h.2.1, mustN_port hp]
  cases c.dash <;> rfl
theorem mean_fold (r : Raw) (hd : r.dflt = false) (hf : faultR r = .ok ()) : r.clauses.foldl setC (ent0 r) = meaning r := by
  have hcs : faultCs [] r.clauses = .ok () := by
    unfold faultR at hf
    split at hf
    · cases hf
    · exact hf
  have hg := faultCs_in _ _ hcs
  rw [fold_over _ (faultCs_apart _ _ hcs).1]
  unfold meaning over ent0 preOf porOf proOf
  rw [hd]
  have e1 : ∀ c, findC wSport r.clauses = some c → porC c = (nth c 0, if c.dash then nth c 1 else nth c 0) := fun c hc => by
    obtain ⟨h1, h2⟩ := find_in hc
    exact por_last (hg c h1) (by rw [h2]; decide)
  have e2 : ∀ c, findC wDport r.clauses = some c → porC c = (nth c 0, if c.dash then nth c 1 else nth c 0) := fun c hc => by
    obtain ⟨h1, h2⟩ := find_in hc
    exact por_last (hg c h1) (by rw [h2]; decide)
  cases h1 : findC wSrc r.clauses <;> cases h2 : findC wDst r.clauses <;> cases h3 : findC wSport r.clauses <;> cases h4 : findC wDport r.clauses <;> cases h5 : findC wProto r.clauses <;> simp_all [preC]
end Go.Proofs.YtnbklmmampdbfaaDoor
namespace Go.Proofs.YtnbklmmampdbfaaDoor
open Go Go.RowKit
set_option maxRecDepth 20000

/-- A fault: an error and its place. -/
def fltV (p : Int × Int) : Array Value := #[.int .i64 p.1, .int .i64 p.2]
def FltE : El := ⟨72, 95, 2, 16, #[.int .i64 0, .int .i64 0]⟩
theorem FltOk : FltE.Ok := ⟨Tryd.underlying95, ⟨_, Tryd.underlying72, rfl⟩, by kernel_rfl, rfl, by decide, by decide, by decide⟩
theorem flt_fits (p : Int × Int) : Fits FltE (fltV p) := ⟨rfl, by simp [fltV, Value.oneCell']⟩
theorem below2 (w : World) (a b : Obj) : Below w.heap.size w ((w.alloc a).alloc b) := ((Below.refl _ _).alloc (Nat.le_refl _) _).alloc (by simp) _

set_option maxHeartbeats 1000000 in
theorem when_any (b : Bool) (e p : Int) (w : World) :
    Calls Tryd.prog 29 #[.bool b, .int .i64 e, .int .i64 p] w fun x w' => x = .returned (.agg (fltV (if b then (e, p) else (0, 0)))) ∧ Below w.heap.size w w' := by
  cases b
  · go_enter Tryd.func29, Tryd.ntmps29
    go_wp2_with (first
      | (refine wl_storeE (E := FltE) FltOk rfl _ _ rfl w.heap.size (fltV (0, 0)) (flt_fits _) rfl rfl _ (heap_new _ _ _ rfl) rfl _ (setRow_new _ _ _ _ _ rfl) ?_))
    refine retE (E := FltE) FltOk rfl rfl w.heap.size rfl (fltV (0, 0)) rfl (heap_new _ _ _ rfl) ?_
    exact ⟨rfl, (Below.refl _ _).alloc (Nat.le_refl _) _⟩
  · go_enter Tryd.func29, Tryd.ntmps29
    go_wp2_with (first
      | (refine wl_storeE (E := FltE) FltOk rfl _ _ rfl w.heap.size (fltV (e, p)) (flt_fits _) rfl rfl _ (heap_new _ _ _ rfl) rfl _ (setRow_new _ _ _ _ _ rfl) ?_))
    refine retE (E := FltE) FltOk rfl rfl w.heap.size rfl (fltV (e, p)) rfl (heap_new _ _ _ rfl) ?_
    exact ⟨rfl, (Below.refl _ _).alloc (Nat.le_refl _) _⟩

def firstF : List (Int × Int) → Int × Int
  | [] => (0, 0)
  | f :: l => if f.1 = 0 then firstF l else f
set_option maxHeartbeats 2000000 in
theorem first7_any (F : List (Int × Int)) (v : Value) (w : World) (h : GSl FltE fltV w v F) :
    Calls Tryd.prog 28 #[v] w fun e w' => e = .returned (.agg (fltV (firstF F))) ∧ Below w.heap.size w w' := by
  obtain ⟨o, cap, rfl, hc1, hc2⟩ := h.slice
  obtain ⟨n, hn⟩ : ∃ n, n = F.length := ⟨_, rfl⟩
  have HN : Hid (n = F.length) := hn
  rw [← hn] at h hc1 ⊢
  unfold maxLen at hc2
  have H : Hid (GSl FltE fltV w (.slice o n cap) F) := h
  clear h hn
  go_enter Tryd.func28, Tryd.ntmps28
  go_wp2_with fail
  go_loopw [7] (fun x wr => ∃ j : Nat, j ≤ n ∧ x = .int .i64 (j : Int) ∧ Hid (firstF F = firstF (F.drop j)) ∧ wr.heap[w.heap.size]? = some (.cells (fltV (0, 0)) 72 (0, 0)) ∧ Below w.heap.size w wr) (fun x _ => n - (intOf x).toNat)
  case atStart => exact ⟨0, Nat.zero_le _, rfl, rfl, heap_new _ _ _ rfl, (Below.refl _ _).alloc (Nat.le_refl _) _⟩
  case round =>
    obtain ⟨j, hj, rfl, HJ, hr, hb⟩ := hrel
    have HR : Hid (wr.heap[w.heap.size]? = some (.cells (fltV (0, 0)) 72 (0, 0))) := hr
    have HB : Hid (Below w.heap.size w wr) := hb
    clear hr hb
    by_cases hlt : j < n
    · obtain ⟨g, off, cur, ty, fr, f, rfl, hg, hc, hFj⟩ := H.out.at j hlt
      have K1 : Hid (wr.heap[g]? = some (.cells cur ty fr)) := (HB.out.block g (Array.getElem?_eq_some_iff.1 hg).1).trans hg
      have H1 : Hid (∀ q, q < 2 → cur[off + j * 2 + q]? = (fltV f)[q]?) := hc
      have HD : Hid (F.drop j = f :: F.drop (j + 1)) := by
        obtain ⟨hk, rfl⟩ := List.getElem?_eq_some_iff.1 hFj
        exact List.drop_eq_getElem_cons hk
      have KN : Hid ((wr.alloc (.cells (fltV f) 72)).heap[wr.heap.size]? = some (.cells (fltV f) 72 (0, 0))) := heap_new _ _ _ rfl
      have n0 : (wr.alloc (.cells (fltV f) 72)).cell? ⟨wr.heap.size, 0, none⟩ = some (.int .i64 f.1) := by rw [cell_of_row _ _ _ _ _ _ KN.out]; rfl
      have hlt' : (j : Int) < (n : Int) := by omega
      clear hg hc hFj
      by_cases hz : f.1 = 0
      · have hz' : (f.1 != 0) = false := by simp [hz]
        have HE : Hid (firstF F = firstF (F.drop (j + 1))) := by
          show _ = _
          rw [HJ.out, HD.out, firstF, if_pos hz]
        clear hz
        go_wp2_with (first
          | (refine wl_loadE (E := FltE) FltOk rfl _ rfl g (off + j * 2) rfl cur ty fr (fltV f) rfl K1.out H1.out ?_)
          | (refine wl_storeE (E := FltE) FltOk rfl _ _ rfl wr.heap.size (fltV f) (flt_fits _) rfl rfl _ (heap_new _ _ _ rfl) rfl _ (setRow_new _ _ _ _ _ rfl) ?_))
        go_roundw
        case rel => exact ⟨j + 1, by omega, by go_num, HE, heap_past _ _ _ _ HR.out, HB.out.alloc HB.out.size _⟩
        case measure => simp [intOf]; omega
      · have hz' : (f.1 != 0) = true := by simp [hz]
        have HE : Hid (firstF F = f) := by
          show _ = _
          rw [HJ.out, HD.out, firstF, if_neg hz]
        clear hz
        go_wp2_with (first
          | (refine wl_loadE (E := FltE) FltOk rfl _ rfl g (off + j * 2) rfl cur ty fr (fltV f) rfl K1.out H1.out ?_)
          | (refine wl_storeE (E := FltE) FltOk rfl _ _ rfl wr.heap.size (fltV f) (flt_fits _) rfl rfl _ (heap_new _ _ _ rfl) rfl _ (setRow_new _ _ _ _ _ rfl) ?_)
          | (refine wl_loadE (E := FltE) FltOk rfl _ rfl wr.heap.size 0 rfl _ _ _ (fltV f) rfl KN.out (own_cells _ _) ?_)
          | (refine wl_storeE (E := FltE) FltOk rfl _ _ rfl w.heap.size (fltV f) (flt_fits _) rfl rfl _ (heap_past _ _ _ _ HR.out) rfl _ rfl ?_))
        refine retE (E := FltE) FltOk rfl rfl w.heap.size rfl (fltV f) rfl (setRow_heap _ _ _ _ _ _ (heap_past _ _ _ _ HR.out)) ?_
        exact ⟨by rw [HE.out], below_setRow (HB.out.alloc HB.out.size _) (Nat.le_refl _) _⟩
    · have hlt' : (n : Int) ≤ (j : Int) := by omega
      have HE : Hid (firstF F = (0, 0)) := by
        show _ = _
        rw [HJ.out, List.drop_of_length_le (by have := HN.out; omega)]
        rfl
      clear hlt
      go_wp2_with (first
        | (refine wl_storeE (E := FltE) FltOk rfl _ _ rfl w.heap.size (fltV (0, 0)) (flt_fits _) rfl rfl _ HR.out rfl _ rfl ?_))
      refine retE (E := FltE) FltOk rfl rfl w.heap.size rfl (fltV (0, 0)) rfl (setRow_heap _ _ _ _ _ _ HR.out) ?_
      exact ⟨by rw [HE.out], below_setRow HB.out (Nat.le_refl _) _⟩

/-- A number that isn't from low to high. -/
def outF (f : Fig) (low high : Int) : Int × Int := if decide (f.n < low) || decide (high < f.n) then (10, f.pos) else (0, 0)
set_option maxHeartbeats 2000000 in
theorem outside_any (f : Fig) (low high : Int) (w : World) :
    Calls Tryd.prog 46 #[.agg (figV f), .int .i64 low, .int .i64 high] w fun x w' => x = .returned (.agg (fltV (outF f low high))) ∧ Below w.heap.size w w' := by
  have WH : Hid (∀ b e p W, Calls Tryd.prog 29 #[.bool b, .int .i64 e, .int .i64 p] W fun x w' => x = .returned (.agg (fltV (if b then (e, p) else (0, 0)))) ∧ Below W.heap.size W w') := when_any
  obtain ⟨W2, hW2⟩ : ∃ W2, W2 = (w.alloc (.cells (figV f) 67)).alloc (.cells #[.int .i64 0, .int .i64 0] 72) := ⟨_, rfl⟩
  have c0 : ((w.alloc (.cells (figV f) 67)).alloc (.cells #[.int .i64 0, .int .i64 0] 72)).cell? ⟨w.heap.size, 0, none⟩ = some (.int .i64 f.n) := by rw [cell_of_row _ _ _ _ _ _ (heap_past _ _ _ _ (heap_new w (.cells (figV f) 67) _ rfl))]; rfl
  have c1 : ((w.alloc (.cells (figV f) 67)).alloc (.cells #[.int .i64 0, .int .i64 0] 72)).cell? ⟨w.heap.size, 1, none⟩ = some (.int .i64 f.pos) := by rw [cell_of_row _ _ _ _ _ _ (heap_past _ _ _ _ (heap_new w (.cells (figV f) 67) _ rfl))]; rfl
  have HR : Hid (W2.heap[w.heap.size + 1]? = some (.cells #[.int .i64 0, .int .i64 0] 72 (0, 0)) ∧ Below w.heap.size w W2) := by rw [hW2]; exact ⟨heap_new _ _ _ (by simp), below2 _ _ _⟩
  have HW : Hid (W2 = (w.alloc (.cells (figV f) 67)).alloc (.cells #[.int .i64 0, .int .i64 0] 72)) := hW2
  clear hW2
  have fin : ∀ (F : Int × Int) w1, Below W2.heap.size W2 w1 → w1.heap[w.heap.size + 1]? = some (.cells #[.int .i64 0, .int .i64 0] 72 (0, 0)) ∧ Below w.heap.size w w1 := fun F w1 hb => ⟨(hb.block _ (Array.getElem?_eq_some_iff.1 HR.out.1).1).trans HR.out.1, HR.out.2.trans (hb.mono HR.out.2.size)⟩
  have FIN : Hid (∀ w1, Below W2.heap.size W2 w1 → w1.heap[w.heap.size + 1]? = some (.cells #[.int .i64 0, .int .i64 0] 72 (0, 0)) ∧ Below w.heap.size w w1) := fin (0, 0)
  clear fin
  by_cases h1 : f.n < low
  · have e : outF f low high = (10, f.pos) := by unfold outF; simp [h1]
    rw [e]
    clear e
    go_enter Tryd.func46, Tryd.ntmps46
    go_wp2_with fail
    refine (WH.out _ _ _ _).mono ?_
    rintro x w1 ⟨rfl, hb1⟩
    rw [← HW.out] at hb1
    have K := FIN.out w1 hb1
    have KR : Hid _ := K.1
    have KB := K.2
    clear K hb1
    go_wp2_with (first
      | (refine wl_storeE (E := FltE) FltOk rfl _ _ rfl (w.heap.size + 1) (fltV (10, f.pos)) (flt_fits _) rfl rfl _ KR.out rfl _ rfl ?_))
    refine retE (E := FltE) FltOk rfl rfl (w.heap.size + 1) rfl (fltV (10, f.pos)) rfl (setRow_heap _ _ _ _ _ _ KR.out) ?_
    exact ⟨rfl, below_setRow KB (by omega) _⟩
  · by_cases h2 : high < f.n
    · have e : outF f low high = (10, f.pos) := by unfold outF; simp [h2]
      rw [e]
      have h2' : f.n > high := h2
      clear e h2
      go_enter Tryd.func46, Tryd.ntmps46
      go_wp2_with fail
      refine (WH.out _ _ _ _).mono ?_
      rintro x w1 ⟨rfl, hb1⟩
      rw [← HW.out] at hb1
      have K := FIN.out w1 hb1
      have KR : Hid _ := K.1
      have KB := K.2
      clear K hb1
      go_wp2_with (first
        | (refine wl_storeE (E := FltE) FltOk rfl _ _ rfl (w.heap.size + 1) (fltV (10, f.pos)) (flt_fits _) rfl rfl _ KR.out rfl _ rfl ?_))
      refine retE (E := FltE) FltOk rfl rfl (w.heap.size + 1) rfl (fltV (10, f.pos)) rfl (setRow_heap _ _ _ _ _ _ KR.out) ?_
      exact ⟨rfl, below_setRow KB (by omega) _⟩
    · have e : outF f low high = (0, 0) := by unfold outF; simp [h1, h2]
      rw [e]
      have h2' : ¬ f.n > high := h2
      clear e h2
      go_enter Tryd.func46, Tryd.ntmps46
      go_wp2_with fail
      refine (WH.out _ _ _ _).mono ?_
      rintro x w1 ⟨rfl, hb1⟩
      rw [← HW.out] at hb1
      have K := FIN.out w1 hb1
      have KR : Hid _ := K.1
      have KB := K.2
      clear K hb1
      go_wp2_with (first
        | (refine wl_storeE (E := FltE) FltOk rfl _ _ rfl (w.heap.size + 1) (fltV (0, 0)) (flt_fits _) rfl rfl _ KR.out rfl _ rfl ?_))
      refine retE (E := FltE) FltOk rfl rfl (w.heap.size + 1) rfl (fltV (0, 0)) rfl (setRow_heap _ _ _ _ _ _ KR.out) ?_
      exact ⟨rfl, below_setRow KB (by omega) _⟩
end Go.Proofs.YtnbklmmampdbfaaDoor
namespace Go.Proofs.YtnbklmmampdbfaaDoor
open Go Go.RowKit
set_option maxRecDepth 20000

def manyI (c : Cla) : Int := if mustN c = 0 then -1 else (mustN c : Int)
theorem cla_row (w : World) (c : Cla) (u : Value) : (w.alloc (.cells (claV c u) 100)).heap[w.heap.size]? = some (.cells (claV c u) 100 (0, 0)) := heap_new _ _ _ rfl
theorem cla_f {w : World} {b : Nat} {c : Cla} {u : Value} {ty : TypeId} {fr : Nat × Nat} (h : w.heap[b]? = some (.cells (claV c u) ty fr)) :
    w.cell? ⟨b, 0, none⟩ = some (.string ⟨c.word.toArray⟩) ∧ w.cell? ⟨b, 1, none⟩ = some (.int .i64 c.pos) ∧ w.cell? ⟨b, 2, none⟩ = some u ∧ w.cell? ⟨b, 3, none⟩ = some (.bool c.slash) ∧ w.cell? ⟨b, 4, none⟩ = some (.bool c.dash) := by
  refine ⟨?_, ?_, ?_, ?_, ?_⟩ <;> (rw [cell_of_row _ _ _ _ _ _ h]; rfl)
/-- The five words, and all others. -/
theorem word_cases (x : List UInt8) : x = wSrc ∨ x = wDst ∨ x = wSport ∨ x = wDport ∨ x = wProto ∨ ((x == [115, 114, 99]) = false ∧ (x == [100, 115, 116]) = false ∧ (x == [115, 112, 111, 114, 116]) = false ∧ (x == [100, 112, 111, 114, 116]) = false ∧ (x == [112, 114, 111, 116, 111]) = false) := by
  by_cases h1 : x = wSrc
  · exact .inl h1
  by_cases h2 : x = wDst
  · exact .inr (.inl h2)
  by_cases h3 : x = wSport
  · exact .inr (.inr (.inl h3))
  by_cases h4 : x = wDport
  · exact .inr (.inr (.inr (.inl h4)))
  by_cases h5 : x = wProto
  · exact .inr (.inr (.inr (.inr (.inl h5))))
  refine .inr (.inr (.inr (.inr (.inr ⟨?_, ?_, ?_, ?_, ?_⟩)))) <;> (rw [beq_eq_false_iff_ne]; assumption)

set_option maxHeartbeats 2000000 in
theorem many7_any (c : Cla) (u : Value) (hu : ∃ o n m, u = .slice o n m) (w : World) :
    Calls Tryd.prog 70 #[.agg (claV c u)] w fun x w' => x = .returned (.int .i64 (manyI c)) ∧ Below w.heap.size w w' := by
  obtain ⟨o, n, m, rfl⟩ := hu
  have q := cla_f (cla_row w c (.slice o n m))
  obtain ⟨c0, -, -, c3, c4⟩ := q
  have HB : Hid (Below w.heap.size w (w.alloc (.cells (claV c (.slice o n m)) 100))) := (Below.refl _ _).alloc (Nat.le_refl _) _
  obtain ⟨word, pos, nums, slash, dash⟩ := c
  simp only at c0 c3 c4
  rcases word_cases word with rfl | rfl | rfl | rfl | rfl | ⟨e0, e1, e2, e3, e4⟩
  · cases slash
    · rw [show manyI ⟨wSrc, pos, nums, false, dash⟩ = 4 from rfl]
      go_enter Tryd.func70, Tryd.ntmps70
      go_wp2_with fail
      go_ret
      exact ⟨rfl, HB.out⟩
    · rw [show manyI ⟨wSrc, pos, nums, true, dash⟩ = 5 from rfl]
      go_enter Tryd.func70, Tryd.ntmps70
      go_wp2_with fail
      go_ret
      exact ⟨rfl, HB.out⟩
  · cases slash
    · rw [show manyI ⟨wDst, pos, nums, false, dash⟩ = 4 from rfl]
      go_enter Tryd.func70, Tryd.ntmps70
      go_wp2_with fail
      go_ret
      exact ⟨rfl, HB.out⟩
    · rw [show manyI ⟨wDst, pos, nums, true, dash⟩ = 5 from rfl]
      go_enter Tryd.func70, Tryd.ntmps70
      go_wp2_with fail
      go_ret
      exact ⟨rfl, HB.out⟩
  · cases dash
    · rw [show manyI ⟨wSport, pos, nums, slash, false⟩ = 1 from rfl]
      go_enter Tryd.func70, Tryd.ntmps70
      go_wp2_with fail
      go_ret
      exact ⟨rfl, HB.out⟩
    · rw [show manyI ⟨wSport, pos, nums, slash, true⟩ = 2 from rfl]
      go_enter Tryd.func70, Tryd.ntmps70
      go_wp2_with fail
      go_ret
      exact ⟨rfl, HB.out⟩
  · cases dash
    · rw [show manyI ⟨wDport, pos, nums, slash, false⟩ = 1 from rfl]
      go_enter Tryd.func70, Tryd.ntmps70
      go_wp2_with fail
      go_ret
      exact ⟨rfl, HB.out⟩
    · rw [show manyI ⟨wDport, pos, nums, slash, true⟩ = 2 from rfl]
      go_enter Tryd.func70, Tryd.ntmps70
      go_wp2_with fail
      go_ret
      exact ⟨rfl, HB.out⟩
  · rw [show manyI ⟨wProto, pos, nums, slash, dash⟩ = 1 from rfl]
    go_enter Tryd.func70, Tryd.ntmps70
    go_wp2_with fail
    go_ret
    exact ⟨rfl, HB.out⟩
  · have hm : manyI ⟨word, pos, nums, slash, dash⟩ = -1 := by
      unfold manyI mustN isAddrW isPortW wSrc wDst wSport wDport wProto
      simp only [e0, e1, e2, e3, e4]
      rfl
    rw [hm]
    clear hm
    go_enter Tryd.func70, Tryd.ntmps70
    go_wp2_with fail
    go_ret
    exact ⟨rfl, HB.out⟩
theorem many_ne (c : Cla) : (((c.nums.length : Int)) != manyI c) = (mustN c == 0 || c.nums.length != mustN c) := by
  unfold manyI
  by_cases h : mustN c = 0
  · rw [if_pos h, h]
    have : ((c.nums.length : Int) != -1) = true := by rw [bne_iff_ne]; omega
    rw [this]; rfl
  · rw [if_neg h]
    have e : (mustN c == 0) = false := by simpa using h
    rw [e, Bool.false_or, Bool.eq_iff_iff, bne_iff_ne, bne_iff_ne]
    omega

set_option maxHeartbeats 4000000 in
theorem bounds_any (c : Cla) (u : Value) (i : Nat) (w : World) (hu : FigsAt w c u) (hi : i < c.nums.length) :
    Calls Tryd.prog 86 #[.agg (claV c u), .int .i64 (i : Int)] w fun x w' => x = .returned (.tuple #[.int .i64 (lowN c i), .int .i64 (mostN c.word i)]) ∧ Below w.heap.size w w' := by
  obtain ⟨o, m, rfl, hm1, hm2⟩ := hu.slice
  have q := cla_f (cla_row w c (.slice o c.nums.length m))
  obtain ⟨c0, -, c2, -, -⟩ := q
  have HB : Hid (Below w.heap.size w (w.alloc (.cells (claV c (.slice o c.nums.length m)) 100))) := (Below.refl _ _).alloc (Nat.le_refl _) _
  obtain ⟨g, off, cur, ty, fr, f, rfl, hg, hc, hf⟩ := hu.at 0 (by omega)
  have hn : nth c 0 = f.n := by unfold nth; rw [List.getD_eq_getElem?_getD, hf]; rfl
  have cg : (w.alloc (.cells (claV c (.slice (some ⟨g, off, none⟩) c.nums.length m)) 100)).cell? ⟨g, off, none⟩ = some (.int .i64 f.n) := by
    rw [cell_of_row _ _ _ _ _ _ (heap_past _ _ _ _ hg)]
    have := hc 0 (by decide)
    rw [show off + 0 * FigE.size + 0 = off by simp] at this
    exact this
  obtain ⟨n, hnn⟩ : ∃ n, n = c.nums.length := ⟨_, rfl⟩
  rw [← hnn] at hi hm1 c0 c2 cg HB ⊢
  have hpos : (0 : Int) < (n : Int) := by omega
  have hposn : 0 < n := by omega
  unfold maxLen at hm2
  clear hu hg hc hf hnn
  obtain ⟨word, pos, nums, slash, dash⟩ := c
  simp only at c0 c2
  rcases word_cases word with rfl | rfl | rfl | rfl | rfl | ⟨e0, e1, e2, e3, e4⟩
  · by_cases h4 : i = 4
    · subst h4
      rw [show lowN ⟨wSrc, pos, nums, slash, dash⟩ 4 = 0 from rfl, show mostN wSrc 4 = 32 from rfl]
      clear hn
      go_enter Tryd.func86, Tryd.ntmps86
      go_wp2_with fail
      go_ret2
      exact ⟨rfl, HB.out⟩
    · have h4' : ((i : Int) == 4) = false := by simp; omega
      rw [show lowN ⟨wSrc, pos, nums, slash, dash⟩ i = 0 from rfl, show mostN wSrc i = 255 by unfold mostN; simp [h4]; decide]
      clear hn h4
      go_enter Tryd.func86, Tryd.ntmps86
      go_wp2_with fail
      go_ret2
      exact ⟨rfl, HB.out⟩
  · by_cases h4 : i = 4
    · subst h4
      rw [show lowN ⟨wDst, pos, nums, slash, dash⟩ 4 = 0 from rfl, show mostN wDst 4 = 32 from rfl]
      clear hn
      go_enter Tryd.func86, Tryd.ntmps86
      go_wp2_with fail
      go_ret2
      exact ⟨rfl, HB.out⟩
    · have h4' : ((i : Int) == 4) = false := by simp; omega
      rw [show lowN ⟨wDst, pos, nums, slash, dash⟩ i = 0 from rfl, show mostN wDst i = 255 by unfold mostN; simp [h4]; decide]
      clear hn h4
      go_enter Tryd.func86, Tryd.ntmps86
      go_wp2_with fail
      go_ret2
      exact ⟨rfl, HB.out⟩
  · by_cases h0 : 0 < i
    · have h0' : (i : Int) > 0 := by omega
      have hl : lowN ⟨wSport, pos, nums, slash, dash⟩ i = f.n := by rw [← hn]; unfold lowN; rw [decide_eq_true h0]; rfl
      rw [hl, show mostN wSport i = 65535 from rfl]
      clear hn hl h0
      go_enter Tryd.func86, Tryd.ntmps86
      go_wp2_with fail
      go_ret2
      exact ⟨rfl, HB.out⟩
    · have h0' : ¬ (i : Int) > 0 := by omega
      have hl : lowN ⟨wSport, pos, nums, slash, dash⟩ i = 0 := by unfold lowN; rw [decide_eq_false h0]; rfl
      rw [hl, show mostN wSport i = 65535 from rfl]
      clear hn hl h0
      go_enter Tryd.func86, Tryd.ntmps86
      go_wp2_with fail
      go_ret2
      exact ⟨rfl, HB.out⟩
  · by_cases h0 : 0 < i
    · have h0' : (i : Int) > 0 := by omega
      have hl : lowN ⟨wDport, pos, nums, slash, dash⟩ i = f.n := by rw [← hn]; unfold lowN; rw [decide_eq_true h0]; rfl
      rw [hl, show mostN wDport i = 65535 from rfl]
      clear hn hl h0
      go_enter Tryd.func86, Tryd.ntmps86
      go_wp2_with fail
      go_ret2
      exact ⟨rfl, HB.out⟩
    · have h0' : ¬ (i : Int) > 0 := by omega
      have hl : lowN ⟨wDport, pos, nums, slash, dash⟩ i = 0 := by unfold lowN; rw [decide_eq_false h0]; rfl
      rw [hl, show mostN wDport i = 65535 from rfl]
      clear hn hl h0
      go_enter Tryd.func86, Tryd.ntmps86
      go_wp2_with fail
      go_ret2
      exact ⟨rfl, HB.out⟩
  · rw [show lowN ⟨wProto, pos, nums, slash, dash⟩ i = 0 from rfl, show mostN wProto i = 255 from rfl]
    clear hn
    go_enter Tryd.func86, Tryd.ntmps86
    go_wp2_with fail
    go_ret2
    exact ⟨rfl, HB.out⟩
  · have hp : isPortW word = false := by unfold isPortW wSport wDport; rw [e2, e3]; rfl
    have hl : lowN ⟨word, pos, nums, slash, dash⟩ i = 0 := by unfold lowN; rw [hp]; rfl
    have ho : (word == wProto) = false := e4
    by_cases h4 : i = 4
    · subst h4
      have hm : mostN word 4 = 32 := by unfold mostN; rw [hp, ho]; rfl
      rw [hl, hm]
      clear hn hl hm hp ho
      go_enter Tryd.func86, Tryd.ntmps86
      go_wp2_with fail
      go_ret2
      exact ⟨rfl, HB.out⟩
    · have h4' : ((i : Int) == 4) = false := by simp; omega
      have hm : mostN word i = 255 := by unfold mostN; rw [hp, ho]; simp [h4]
      rw [hl, hm]
      clear hn hl hm hp ho h4
      go_enter Tryd.func86, Tryd.ntmps86
      go_wp2_with fail
      go_ret2
      exact ⟨rfl, HB.out⟩
end Go.Proofs.YtnbklmmampdbfaaDoor
namespace Go.Proofs.YtnbklmmampdbfaaDoor
open Go Go.RowKit
set_option maxRecDepth 20000

set_option maxHeartbeats 2000000 in
theorem sameWord7_any (w : World) (k : Nat) (c0 : Cla) (u0 : Value) (c : Cla) (u : Value) (hu : ∃ o n m, u = .slice o n m) (hk : w.heap[k]? = some (.cells (claV c0 u0) 100 (0, 0))) :
    Calls Tryd.prog 69 #[.agg (claV c u), .pointer (some ⟨k, 0, none⟩)] w fun e w' => e = .returned (.bool (c.word == c0.word)) ∧ Below w.heap.size w w' := by
  obtain ⟨o, n, m, rfl⟩ := hu
  have t2 : ∀ x, (w.alloc x).cell? ⟨k, 0, none⟩ = some (.string ⟨c0.word.toArray⟩) := fun x => (cla_f (heap_past _ x _ _ hk)).1
  have n0 := heap_new w (.cells (claV c (.slice o n m)) 100) _ rfl
  have c0' : (w.alloc (.cells (claV c (.slice o n m)) 100)).cell? ⟨w.heap.size, 0, none⟩ = some (.string ⟨c.word.toArray⟩) := by rw [cell_of_row _ _ _ _ _ _ n0]; rfl
  clear hk n0
  go_enter Tryd.func69, Tryd.ntmps69
  go_wp2_with fail
  go_ret
  exact ⟨rfl, (Below.refl _ _).alloc (Nat.le_refl _) _⟩
set_option maxHeartbeats 4000000 in
theorem indexFunc7_any {R : World → Cla → Value → Prop} (hR : ∀ w c u, R w c u → ∃ o n m, u = .slice o n m) (w : World) (v : Value) (C : List Cla) (h : NSl ClaE claV R w v C) (k : Nat) (c0 : Cla) (u0 : Value) (hk : w.heap[k]? = some (.cells (claV c0 u0) 100 (0, 0))) :
    Calls Tryd.prog 85 #[v, .func (.func 69) #[] #[.pointer (some ⟨k, 0, none⟩)]] w fun e w' => (∃ i : Int, e = .returned (.int .i64 i) ∧ ((decide (0 ≤ i)) = C.any (fun c => c.word == c0.word))) ∧ Below w.heap.size w w' := by
  obtain ⟨o, cap, rfl, hcap, hm⟩ := h.slice
  have CS : Hid (∀ W c u, (∃ o n m, u = .slice o n m) → Below w.heap.size w W → Calls Tryd.prog 69 #[.agg (claV c u), .pointer (some ⟨k, 0, none⟩)] W fun e w' => e = .returned (.bool (c.word == c0.word)) ∧ Below W.heap.size W w') := fun W c u hu hb => sameWord7_any W k c0 u0 c u hu ((hb.block k (Array.getElem?_eq_some_iff.1 hk).1).trans hk)
  obtain ⟨n, hn⟩ : ∃ n, n = C.length := ⟨_, rfl⟩
  have HN : Hid (n = C.length) := hn
  rw [← hn] at h hcap ⊢
  have H : Hid (NSl ClaE claV R w (.slice o n cap) C) := h
  unfold maxLen at hm
  clear h hk hn
  go_enter Tryd.func85, Tryd.ntmps85
  go_wp2_with fail
  go_loopw [8] (fun x wr => ∃ j : Nat, j ≤ n ∧ x = .int .i64 (j : Int) ∧ Hid ((C.take j).any (fun c => c.word == c0.word) = false) ∧ Below w.heap.size w wr) (fun x _ => n - (intOf x).toNat)
  case atStart => exact ⟨0, Nat.zero_le _, rfl, rfl, Below.refl _ _⟩
  case round =>
    obtain ⟨j, hj, rfl, HJ, hb⟩ := hrel
    by_cases hlt : j < n
    · obtain ⟨g, off, cur, ty, fr, c, u, rfl, hg, hc, hCj, hr⟩ := H.out.at j hlt
      obtain ⟨o1, n1, m1, rfl⟩ := hR _ _ _ hr
      have k1 : Hid (wr.heap[g]? = some (.cells cur ty fr)) := (hb.block g (Array.getElem?_eq_some_iff.1 hg).1).trans hg
      have H1 : Hid (∀ i, i < 5 → cur[off + j * 5 + i]? = (claV c (.slice o1 n1 m1))[i]?) := hc
      have HT := any_take_succ hCj (fun c => c.word == c0.word)
      rw [HJ.out, Bool.false_or] at HT
      have HTT : Hid ((C.take (j + 1)).any (fun c => c.word == c0.word) = (c.word == c0.word)) := HT
      have hlt' : (j : Int) < (n : Int) := by omega
      clear hg hc hCj hr HT
      go_wp2_with (first
        | (refine wl_loadE (E := ClaE) ClaOk rfl _ rfl g (off + j * 5) rfl cur ty fr (claV c (.slice o1 n1 m1)) rfl k1.out H1.out ?_))
      refine (CS.out _ c _ ⟨_, _, _, rfl⟩ hb).mono ?_
      rintro e w1 ⟨rfl, hb1⟩
      have B1 := hb.trans (hb1.mono hb.size)
      clear hb hb1
      by_cases hq : (c.word == c0.word) = true
      · have HALL : Hid (C.any (fun c => c.word == c0.word) = true) := by
          show _ = _
          have := HTT.out
          rw [hq] at this
          obtain ⟨x, hx, hx2⟩ := List.any_eq_true.1 this
          exact List.any_eq_true.2 ⟨x, List.mem_of_mem_take hx, hx2⟩
        rw [hq]
        clear hq
        go_wp2_with fail
        go_ret
        refine ⟨⟨_, rfl, ?_⟩, B1⟩
        rw [HALL.out]
        simp
      · have hq' : (c.word == c0.word) = false := by simpa using hq
        rw [hq'] at HTT
        rw [hq']
        clear hq hq'
        go_wp2_with fail
        go_roundw
        case rel => exact ⟨j + 1, by omega, by go_num, HTT, B1⟩
        case measure => simp [intOf]; omega
    · have hlt' : (n : Int) ≤ (j : Int) := by omega
      have HALL : Hid (C.any (fun c => c.word == c0.word) = false) := by
        show _ = _
        have := HJ.out
        rwa [List.take_of_length_le (by have := HN.out; omega)] at this
      go_wp2_with fail
      go_ret
      refine ⟨⟨_, rfl, ?_⟩, hb⟩
      rw [HALL.out]
      decide
set_option maxHeartbeats 2000000 in
theorem containsFunc7_any {R : World → Cla → Value → Prop} (hR : ∀ w c u, R w c u → ∃ o n m, u = .slice o n m) (w : World) (v : Value) (C : List Cla) (h : NSl ClaE claV R w v C) (k : Nat) (c0 : Cla) (u0 : Value) (hk : w.heap[k]? = some (.cells (claV c0 u0) 100 (0, 0))) :
    Calls Tryd.prog 68 #[v, .func (.func 69) #[] #[.pointer (some ⟨k, 0, none⟩)]] w fun e w' => e = .returned (.bool (C.any (fun c => c.word == c0.word))) ∧ Below w.heap.size w w' := by
  have C1 : Hid (Calls Tryd.prog 85 #[v, .func (.func 69) #[] #[.pointer (some ⟨k, 0, none⟩)]] w fun e w' => (∃ i : Int, e = .returned (.int .i64 i) ∧ ((decide (0 ≤ i)) = C.any (fun c => c.word == c0.word))) ∧ Below w.heap.size w w') := indexFunc7_any hR w v C h k c0 u0 hk
  obtain ⟨b, hb⟩ : ∃ b, b = C.any (fun c => c.word == c0.word) := ⟨_, rfl⟩
  rw [← hb] at C1 ⊢
  clear h hk hb
  go_enter Tryd.func68, Tryd.ntmps68
  go_wp2_with fail
  refine C1.out.mono ?_
  rintro e w1 ⟨⟨i, rfl, hi⟩, hb1⟩
  have HI : Hid (decide (0 ≤ i) = b) := hi
  clear hi
  go_wp2_with fail
  go_ret
  refine ⟨?_, hb1⟩
  rw [← HI.out]
  rfl

theorem outF_zero (f : Fig) (low high : Int) : (outF f low high).1 = 0 ↔ ¬ (decide (f.n < low) || decide (high < f.n)) = true := by
  unfold outF
  split
  · rename_i h; simp [h]
  · rename_i h; simp [h]
theorem numF_step (c : Cla) (j : Nat) (f : Fig) (l : List Fig) : numF c j (f :: l) = if (outF f (lowN c j) (mostN c.word j)).1 = 0 then numF c (j + 1) l else outF f (lowN c j) (mostN c.word j) := by
  rw [numF]
  by_cases h : (decide (f.n < lowN c j) || decide (mostN c.word j < f.n)) = true
  · rw [if_pos h, if_neg (by rw [outF_zero]; simp [h])]
    unfold outF
    rw [if_pos h]
  · rw [if_neg h, if_pos (by rw [outF_zero]; exact h)]
theorem below_at {w wr : World} {k : Nat} (hk : k < w.heap.size) {o : Obj} (h : w.heap[k]? = some o) (hb : Below w.heap.size w wr) : wr.heap[k]? = some o := (hb.block k hk).trans h

set_option maxHeartbeats 4000000 in
theorem numbers_any (c : Cla) (u : Value) (w : World) (hu : FigsAt w c u) :
    Calls Tryd.prog 71 #[.agg (claV c u)] w fun x w' => x = .returned (.agg (fltV (numF c 0 c.nums))) ∧ Below w.heap.size w w' := by
  have BO : Hid (∀ (i : Nat) W, Below w.heap.size w W → i < c.nums.length → Calls Tryd.prog 86 #[.agg (claV c u), .int .i64 (i : Int)] W fun x w' => x = .returned (.tuple #[.int .i64 (lowN c i), .int .i64 (mostN c.word i)]) ∧ Below W.heap.size W w') := fun i W hb hi => bounds_any c u i W (figs_below _ _ _ _ hb hu) hi
  have OU : Hid (∀ (f : Fig) (low high : Int) W, Calls Tryd.prog 46 #[.agg (figV f), .int .i64 low, .int .i64 high] W fun x w' => x = .returned (.agg (fltV (outF f low high))) ∧ Below W.heap.size W w') := outside_any
  obtain ⟨o, cap, rfl, hc1, hc2⟩ := GSl.slice hu
  obtain ⟨n, hn⟩ : ∃ n, n = c.nums.length := ⟨_, rfl⟩
  have HN : Hid (n = c.nums.length) := hn
  rw [← hn] at hu hc1 BO ⊢
  unfold maxLen at hc2
  have HU : Hid (FigsAt w c (.slice o n cap)) := hu
  have b1 : Hid (((w.alloc (.cells (claV c (.slice o n cap)) 100)).alloc (.cells #[.int .i64 0, .int .i64 0] 72)).heap[w.heap.size]? = some (.cells (claV c (.slice o n cap)) 100 (0, 0))) := heap_past _ _ _ _ (heap_new _ _ _ rfl)
  have b2 : Hid (((w.alloc (.cells (claV c (.slice o n cap)) 100)).alloc (.cells #[.int .i64 0, .int .i64 0] 72)).heap[w.heap.size + 1]? = some (.cells #[.int .i64 0, .int .i64 0] 72 (0, 0))) := heap_new _ _ _ (by simp)
  have c2 := (cla_f b1.out).2.2.1
  clear hu hn
  go_enter Tryd.func71, Tryd.ntmps71
  go_wp2_with fail
  clear c2
  go_loopw [11] (fun x wr => ∃ j : Nat, j ≤ n ∧ x = .int .i64 (j : Int) ∧ Hid (numF c 0 c.nums = numF c j (c.nums.drop j)) ∧ wr.heap[w.heap.size]? = some (.cells (claV c (.slice o n cap)) 100 (0, 0)) ∧ wr.heap[w.heap.size + 1]? = some (.cells #[.int .i64 0, .int .i64 0] 72 (0, 0)) ∧ Below w.heap.size w wr) (fun x _ => n - (intOf x).toNat)
  case atStart => exact ⟨0, Nat.zero_le _, rfl, rfl, b1.out, b2.out, below2 _ _ _⟩
  case round =>
    clear b1 b2
    obtain ⟨j, hj, rfl, HJ, hr1, hr2, hb⟩ := hrel
    have R1 : Hid (wr.heap[w.heap.size]? = some (.cells (claV c (.slice o n cap)) 100 (0, 0))) := hr1
    have R2 : Hid (wr.heap[w.heap.size + 1]? = some (.cells #[.int .i64 0, .int .i64 0] 72 (0, 0))) := hr2
    have HB : Hid (Below w.heap.size w wr) := hb
    clear hr1 hr2 hb
    by_cases hlt : j < n
    · obtain ⟨g, off, cur, ty, fr, f, rfl, hg, hc, hFj⟩ := HU.out.at j hlt
      have K1 : Hid (wr.heap[g]? = some (.cells cur ty fr)) := (HB.out.block g (Array.getElem?_eq_some_iff.1 hg).1).trans hg
      have H1 : Hid (∀ q, q < 2 → cur[off + j * 2 + q]? = (figV f)[q]?) := hc
      have HD : Hid (c.nums.drop j = f :: c.nums.drop (j + 1)) := by
        obtain ⟨hk, rfl⟩ := List.getElem?_eq_some_iff.1 hFj
        exact List.drop_eq_getElem_cons hk
      have hlt' : (j : Int) < (n : Int) := by omega
      have BA : Hid (Below wr.heap.size wr (wr.alloc (.cells (figV f) 67))) := (Below.refl _ _).alloc (Nat.le_refl _) _
      have HLT : Hid (j < n) := hlt
      clear hg hc hFj hlt
      go_wp2_with (first
        | (refine wl_loadE (E := FigE) FigOk rfl _ rfl g (off + j * 2) rfl cur ty fr (figV f) rfl K1.out H1.out ?_)
        | (refine wl_storeE (E := FigE) FigOk rfl _ _ rfl wr.heap.size (figV f) (fig_fits _) rfl rfl _ (heap_new _ _ _ rfl) rfl _ (setRow_new _ _ _ _ _ rfl) ?_)
        | (refine wl_loadE (E := ClaE) ClaOk rfl _ rfl w.heap.size 0 rfl _ _ _ (claV c (.slice (some ⟨g, off, none⟩) n cap)) rfl (heap_past _ _ _ _ R1.out) (own_cells _ _) ?_))
      refine (BO.out j _ (HB.out.trans (BA.out.mono HB.out.size)) HLT.out).mono ?_
      rintro e w1 ⟨rfl, hb1⟩
      have B1 : Hid (Below wr.heap.size wr w1) := BA.out.trans (hb1.mono BA.out.size)
      have KF : Hid (w1.heap[wr.heap.size]? = some (.cells (figV f) 67 (0, 0))) := (hb1.block _ (by simp)).trans (heap_new _ _ _ rfl)
      clear hb1 BA
      obtain ⟨F, hF⟩ : ∃ F, F = outF f (lowN c j) (mostN c.word j) := ⟨_, rfl⟩
      have CO : Hid (∀ W, Calls Tryd.prog 46 #[.agg (figV f), .int .i64 (lowN c j), .int .i64 (mostN c.word j)] W fun x w' => x = .returned (.agg (fltV F)) ∧ Below W.heap.size W w') := fun W => by rw [hF]; exact OU.out f _ _ W
      have HST : Hid (numF c j (f :: c.nums.drop (j + 1)) = if F.1 = 0 then numF c (j + 1) (c.nums.drop (j + 1)) else F) := by rw [hF]; exact numF_step c j f _
      obtain ⟨lo, hlo⟩ : ∃ lo, lo = lowN c j := ⟨_, rfl⟩
      obtain ⟨hi, hhi⟩ : ∃ hi, hi = mostN c.word j := ⟨_, rfl⟩
      rw [← hlo, ← hhi] at CO ⊢
      clear hF hlo hhi
      go_wp2_with (first
        | (refine wl_loadE (E := FigE) FigOk rfl _ rfl wr.heap.size 0 rfl _ _ _ (figV f) rfl KF.out (own_cells _ _) ?_))
      refine (CO.out _).mono ?_
      rintro e w2 ⟨rfl, hb2⟩
      have B2 : Hid (Below wr.heap.size wr w2) := B1.out.trans (hb2.mono B1.out.size)
      clear hb2
      have KN : Hid ((w2.alloc (.cells (fltV F) 72)).heap[w2.heap.size]? = some (.cells (fltV F) 72 (0, 0))) := heap_new _ _ _ rfl
      have n0 : (w2.alloc (.cells (fltV F) 72)).cell? ⟨w2.heap.size, 0, none⟩ = some (.int .i64 F.1) := by rw [cell_of_row _ _ _ _ _ _ KN.out]; rfl
      have B3 : Hid (Below wr.heap.size wr (w2.alloc (.cells (fltV F) 72))) := B2.out.alloc B2.out.size _
      have zr : Hid (w.heap.size + 1 < wr.heap.size) := (Array.getElem?_eq_some_iff.1 R2.out).1
      by_cases hz : F.1 = 0
      · have hz' : (F.1 != 0) = false := by simp [hz]
        have HE : Hid (numF c 0 c.nums = numF c (j + 1) (c.nums.drop (j + 1))) := by
          show _ = _
          rw [HJ.out, HD.out, HST.out, if_pos hz]
        clear hz
        go_wp2_with (first
          | (refine wl_storeE (E := FltE) FltOk rfl _ _ rfl w2.heap.size (fltV F) (flt_fits _) rfl rfl _ (heap_new _ _ _ rfl) rfl _ (setRow_new _ _ _ _ _ rfl) ?_))
        go_roundw
        case rel =>
          have z := zr.out
          exact ⟨j + 1, by omega, by go_num, HE, (B3.out.block _ (by omega)).trans R1.out, (B3.out.block _ (by omega)).trans R2.out, HB.out.trans (B3.out.mono HB.out.size)⟩
        case measure =>
          have := HLT.out
          simp [intOf]; omega
      · have hz' : (F.1 != 0) = true := by simp [hz]
        have HE : Hid (numF c 0 c.nums = F) := by
          show _ = _
          rw [HJ.out, HD.out, HST.out, if_neg hz]
        have KR : Hid ((w2.alloc (.cells (fltV F) 72)).heap[w.heap.size + 1]? = some (.cells #[.int .i64 0, .int .i64 0] 72 (0, 0))) := (B3.out.block _ zr.out).trans R2.out
        clear hz
        go_wp2_with (first
          | (refine wl_storeE (E := FltE) FltOk rfl _ _ rfl w2.heap.size (fltV F) (flt_fits _) rfl rfl _ (heap_new _ _ _ rfl) rfl _ (setRow_new _ _ _ _ _ rfl) ?_)
          | (refine wl_loadE (E := FltE) FltOk rfl _ rfl w2.heap.size 0 rfl _ _ _ (fltV F) rfl KN.out (own_cells _ _) ?_)
          | (refine wl_storeE (E := FltE) FltOk rfl _ _ rfl (w.heap.size + 1) (fltV F) (flt_fits _) rfl rfl _ KR.out rfl _ rfl ?_))
        refine retE (E := FltE) FltOk rfl rfl (w.heap.size + 1) rfl (fltV F) rfl (setRow_heap _ _ _ _ _ _ KR.out) ?_
        exact ⟨by rw [HE.out], below_setRow (HB.out.trans (B3.out.mono HB.out.size)) (by omega) _⟩
    · have hlt' : (n : Int) ≤ (j : Int) := by omega
      have HE : Hid (numF c 0 c.nums = (0, 0)) := by
        show _ = _
        rw [HJ.out, List.drop_of_length_le (by have := HN.out; omega)]
        rfl
      clear hlt
      go_wp2_with (first
        | (refine wl_storeE (E := FltE) FltOk rfl _ _ rfl (w.heap.size + 1) (fltV (0, 0)) (flt_fits _) rfl rfl _ R2.out rfl _ rfl ?_))
      refine retE (E := FltE) FltOk rfl rfl (w.heap.size + 1) rfl (fltV (0, 0)) rfl (setRow_heap _ _ _ _ _ _ R2.out) ?_
      exact ⟨by rw [HE.out], below_setRow HB.out (by omega) _⟩
end Go.Proofs.YtnbklmmampdbfaaDoor
namespace Go.Proofs.YtnbklmmampdbfaaDoor
open Go Go.RowKit
set_option maxRecDepth 20000

theorem later_cell7 {W : World} {g k : Nat} {cs : Array Value} {t : TypeId} {fr : Nat × Nat} {v : Value} (hg : W.heap[g]? = some (.cells cs t fr)) (hk : cs[k]? = some v) : ∀ u : Later W, u.world.cell? ⟨g, k, none⟩ = some v := fun u => by
  rw [cell_of_row u.world _ _ _ _ _ (later_block hg _ ⟨u, rfl⟩)]; exact hk
theorem figs_slice7 (w : World) (c : Cla) (u : Value) (h : FigsAt w c u) : ∃ o n m, u = .slice o n m := by
  obtain ⟨o, cap, rfl, _⟩ := GSl.slice h
  exact ⟨_, _, _, rfl⟩
/-- A row that lies in a block of its own. -/
theorem gsl_row {α : Type} {E : El} {enc : α → Array Value} (hE : ∀ c, (enc c).size = E.size) {w : World} {g : Nat} {C : List α} {t : TypeId} {fr : Nat × Nat} (h : w.heap[g]? = some (.cells (gcells enc C).toArray t fr)) (hl : C.length ≤ maxLen) : GSl E enc w (.slice (some ⟨g, 0, none⟩) C.length C.length) C :=
  ⟨_, _, rfl, Nat.le_refl _, hl, fun i hi => ⟨g, 0, _, _, _, rfl, h, fun j hj => by
    rw [← gcells_at enc E.size C (fun c _ => hE c) i hi j hj, Nat.zero_add, Nat.mul_comm]
    simp⟩⟩
theorem wl_build3F {ops : Array Oper} {rest : List Oper} {o : Oper} {a : Act} {w : World} {Q : Exit → Act → World → Prop} (hg : o.guard = none) (x y z : Operand) (ho : o.op = .buildSlice 95 3 #[(0, x), (1, y), (2, z)]) (p q r : Int × Int) (hx : a.eval x = .agg (fltV p)) (hy : a.eval y = .agg (fltV q)) (hz : a.eval z = .agg (fltV r))
    (h : wpList Tryd.prog ops Q rest (a.put o.dst (.slice (some ⟨w.heap.size, 0, none⟩) 3 3)) (w.alloc (.cells (gcells fltV [p, q, r]).toArray 72))) : wpList Tryd.prog ops Q (o :: rest) a w := by
  obtain ⟨ie, hie, hze, hs, _⟩ := FltOk.info
  have hs' : ie.size = 2 := hs
  refine wpList_buildSlice hg 95 72 3 _ ho _ ie (.agg FltE.zero) FltOk.hs hie hze (by rw [hs']; decide) (by rw [hs']; decide) ?_ h
  simp only [List.map_toArray, List.map_cons, List.map_nil, hx, hy, hz, hs']
  kernel_rfl
theorem wl_build4F {ops : Array Oper} {rest : List Oper} {o : Oper} {a : Act} {w : World} {Q : Exit → Act → World → Prop} (hg : o.guard = none) (x y z t : Operand) (ho : o.op = .buildSlice 95 4 #[(0, x), (1, y), (2, z), (3, t)]) (p q r s : Int × Int) (hx : a.eval x = .agg (fltV p)) (hy : a.eval y = .agg (fltV q)) (hz : a.eval z = .agg (fltV r)) (ht : a.eval t = .agg (fltV s))
    (h : wpList Tryd.prog ops Q rest (a.put o.dst (.slice (some ⟨w.heap.size, 0, none⟩) 4 4)) (w.alloc (.cells (gcells fltV [p, q, r, s]).toArray 72))) : wpList Tryd.prog ops Q (o :: rest) a w := by
  obtain ⟨ie, hie, hze, hs, _⟩ := FltOk.info
  have hs' : ie.size = 2 := hs
  refine wpList_buildSlice hg 95 72 4 _ ho _ ie (.agg FltE.zero) FltOk.hs hie hze (by rw [hs']; decide) (by rw [hs']; decide) ?_ h
  simp only [List.map_toArray, List.map_cons, List.map_nil, hx, hy, hz, ht, hs']
  kernel_rfl
def whenF (b : Bool) (e p : Int) : Int × Int := if b then (e, p) else (0, 0)
theorem whenF_any (b : Bool) (e p : Int) (w : World) :
    Calls Tryd.prog 29 #[.bool b, .int .i64 e, .int .i64 p] w fun x w' => x = .returned (.agg (fltV (whenF b e p))) ∧ Below w.heap.size w w' := when_any b e p w
theorem first3 (had : List Cla) (c : Cla) : firstF [whenF (((c.nums.length : Int)) != manyI c) 8 c.pos, whenF (had.any (fun d => d.word == c.word)) 9 c.pos, numF c 0 c.nums] = claF had c := by
  rw [many_ne]
  have hz : ∀ (l : List Fig) (k : Nat), (numF c k l).1 = 0 → numF c k l = (0, 0) := by
    intro l
    induction l with
    | nil => intro k _; rfl
    | cons f l ih =>
      intro k h
      rw [numF] at h ⊢
      split
      · rename_i hh; rw [if_pos hh] at h; simp at h
      · rename_i hh; rw [if_neg hh] at h; exact ih _ h
  unfold claF whenF
  generalize (mustN c == 0 || c.nums.length != mustN c) = b1
  generalize (had.any fun d => d.word == c.word) = b2
  cases b1
  · cases b2
    · simp only [firstF, Bool.false_eq_true, if_false, if_true]
      split
      · rename_i h; exact (hz _ _ h).symm
      · rfl
    · simp [firstF]
  · simp [firstF]

set_option maxHeartbeats 4000000 in
theorem clauseF_any (had : List Cla) (c : Cla) (u va : Value) (w : World) (hu : FigsAt w c u) (ha : NSl ClaE claV FigsAt w va had) :
    Calls Tryd.prog 47 #[.agg (claV c u), va] w fun x w' => x = .returned (.agg (fltV (claF had c))) ∧ Below w.heap.size w w' := by
  obtain ⟨o, cap, rfl, hc1, hc2⟩ := GSl.slice hu
  obtain ⟨oa, capa, rfl, -, -⟩ := NSl.slice ha
  have hmf : ∀ (fn : Fn) (first cap : Array Value) (w : World), (Instr.makeFunc fn first cap).run Tryd.prog w = .ok (.func fn first cap) w := fun _ _ _ _ => rfl
  obtain ⟨n, hn⟩ : ∃ n, n = c.nums.length := ⟨_, rfl⟩
  have HN : Hid (n = c.nums.length) := hn
  rw [← hn] at hu hc1 ⊢
  have CF : Hid (∀ W, Below w.heap.size w W → W.heap[w.heap.size]? = some (.cells (claV c (.slice o n cap)) 100 (0, 0)) → Calls Tryd.prog 68 #[.slice oa had.length capa, .func (.func 69) #[] #[.pointer (some ⟨w.heap.size, 0, none⟩)]] W fun e w' => e = .returned (.bool (had.any (fun d => d.word == c.word))) ∧ Below W.heap.size W w') := fun W hb hk => containsFunc7_any figs_slice7 W _ had (NSl.below figs_below ha hb) w.heap.size c _ hk
  have MA : Hid (∀ W, Calls Tryd.prog 70 #[.agg (claV c (.slice o n cap))] W fun x w' => x = .returned (.int .i64 (manyI c)) ∧ Below W.heap.size W w') := fun W => many7_any c _ ⟨_, _, _, rfl⟩ W
  have WH : Hid (∀ b e p W, Calls Tryd.prog 29 #[.bool b, .int .i64 e, .int .i64 p] W fun x w' => x = .returned (.agg (fltV (whenF b e p))) ∧ Below W.heap.size W w') := whenF_any
  have NU : Hid (∀ W, Below w.heap.size w W → Calls Tryd.prog 71 #[.agg (claV c (.slice o n cap))] W fun x w' => x = .returned (.agg (fltV (numF c 0 c.nums))) ∧ Below W.heap.size W w') := fun W hb => numbers_any c _ W (figs_below _ _ _ _ hb hu)
  have FI : Hid (∀ F v W, GSl FltE fltV W v F → Calls Tryd.prog 28 #[v] W fun e w' => e = .returned (.agg (fltV (firstF F))) ∧ Below W.heap.size W w') := first7_any
  have b1 : Hid (((w.alloc (.cells (claV c (.slice o n cap)) 100)).alloc (.cells #[.int .i64 0, .int .i64 0] 72)).heap[w.heap.size]? = some (.cells (claV c (.slice o n cap)) 100 (0, 0))) := heap_past _ _ _ _ (heap_new _ _ _ rfl)
  have b2 : Hid (((w.alloc (.cells (claV c (.slice o n cap)) 100)).alloc (.cells #[.int .i64 0, .int .i64 0] 72)).heap[w.heap.size + 1]? = some (.cells #[.int .i64 0, .int .i64 0] 72 (0, 0))) := heap_new _ _ _ (by simp)
  have B0 : Hid (Below w.heap.size w ((w.alloc (.cells (claV c (.slice o n cap)) 100)).alloc (.cells #[.int .i64 0, .int .i64 0] 72))) := below2 _ _ _
  have H3 := first3 had c
  rw [← hn] at H3
  have HF : Hid (firstF [whenF ((n : Int) != manyI c) 8 c.pos, whenF (had.any (fun d => d.word == c.word)) 9 c.pos, numF c 0 c.nums] = claF had c) := H3
  obtain ⟨st, hst⟩ : ∃ st, st = had.any (fun d => d.word == c.word) := ⟨_, rfl⟩
  obtain ⟨ma, hma⟩ : ∃ ma, ma = manyI c := ⟨_, rfl⟩
  obtain ⟨nf, hnf⟩ : ∃ nf, nf = numF c 0 c.nums := ⟨_, rfl⟩
  rw [← hst] at CF HF
  rw [← hma] at MA HF
  rw [← hnf] at NU HF
  clear hu ha H3 hst hma hnf hn
  go_enter Tryd.func47, Tryd.ntmps47
  go_wp2_with fail
  refine (CF.out _ B0.out b1.out).mono ?_
  rintro e w1 ⟨rfl, hb1⟩
  have r1 : w1.heap[w.heap.size]? = some (.cells (claV c (.slice o n cap)) 100 (0, 0)) := (hb1.block _ (by simp; omega)).trans b1.out
  have r2 : w1.heap[w.heap.size + 1]? = some (.cells #[.int .i64 0, .int .i64 0] 72 (0, 0)) := (hb1.block _ (by simp)).trans b2.out
  have B1 : Hid (Below w.heap.size w w1) := B0.out.trans (hb1.mono (by simp; omega))
  clear hb1 b1 b2 B0 CF
  go_wp2_with fail
  have l1 : ∀ u : Later w1, u.world.cell? ⟨w.heap.size, 1, none⟩ = some (.int .i64 c.pos) := later_cell7 r1 rfl
  have l2 : ∀ u : Later w1, u.world.cell? ⟨w.heap.size, 2, none⟩ = some (.slice o n cap) := later_cell7 r1 rfl
  have ne1 := Later.ne w1
  refine wp_region_latertail 15 (by kernel_rfl) (by kernel_rfl) ?_
  simp only [List.take_succ_cons, List.take_zero, List.drop_succ_cons, List.drop_zero]
  go_big_quiet_step (rfl)
  go_big_quiet_step (rfl)
  go_big_quiet_step (rfl)
  refine qlE (E := ClaE) ClaOk rfl _ rfl w.heap.size 0 rfl _ _ _ (claV c (.slice o n cap)) rfl (later_block r1) (own_cells _ _) ?_
  simp only [Act.put, List.setIfInBounds_toArray, List.set_cons_succ, List.set_cons_zero]
  go_big_quiet_want; go_big_quiet_op
  refine ⟨_, fun u => Calls.later_of (MA.out u.world), ?_⟩
  go_big_quiet_on
  go_big_quiet_step (rfl)
  go_big_quiet_step (rfl)
  go_big_quiet_step (rfl)
  go_big_quiet_want; go_big_quiet_op
  refine ⟨_, fun u => Calls.later_of (WH.out _ _ _ u.world), ?_⟩
  go_big_quiet_on
  go_big_quiet_step (rfl)
  go_big_quiet_step (rfl)
  go_big_quiet_step (rfl)
  go_big_quiet_want; go_big_quiet_op
  refine ⟨_, fun u => Calls.later_of (WH.out _ _ _ u.world), ?_⟩
  go_big_quiet_on
  refine qlE (E := ClaE) ClaOk rfl _ rfl w.heap.size 0 rfl _ _ _ (claV c (.slice o n cap)) rfl (later_block r1) (own_cells _ _) ?_
  simp only [Act.put, List.setIfInBounds_toArray, List.set_cons_succ, List.set_cons_zero]
  go_big_quiet_want; go_big_quiet_op
  refine ⟨_, fun u => Calls.later_of (NU.out u.world (B1.out.trans (u.below.mono B1.out.size))), ?_⟩
  go_big_quiet_on
  refine wpQuiet_nil ?_
  rintro w' ⟨u, rfl⟩
  have k2 : Hid (u.world.heap[w.heap.size + 1]? = some (.cells #[.int .i64 0, .int .i64 0] 72 (0, 0))) := later_block r2 _ ⟨u, rfl⟩
  have BU : Hid (Below w.heap.size w u.world) := B1.out.trans (u.below.mono B1.out.size)
  obtain ⟨W2, hW2⟩ : ∃ W2, W2 = u.world := ⟨_, rfl⟩
  rw [← hW2] at k2 BU ⊢
  clear hW2 l1 l2 ne1 r1 r2 B1 NU MA
  refine wl_build3F rfl _ _ _ rfl _ _ _ rfl rfl rfl ?_
  simp only [Act.put, List.setIfInBounds_toArray, List.set_cons_succ, List.set_cons_zero]
  have G3 : Hid (GSl FltE fltV (W2.alloc (.cells (gcells fltV [whenF ((n : Int) != ma) 8 c.pos, whenF st 9 c.pos, nf]).toArray 72)) (.slice (some ⟨W2.heap.size, 0, none⟩) 3 3) [whenF ((n : Int) != ma) 8 c.pos, whenF st 9 c.pos, nf]) := gsl_row (E := FltE) (C := [whenF ((n : Int) != ma) 8 c.pos, whenF st 9 c.pos, nf]) (fun _ => rfl) (heap_new _ _ _ rfl) (by show 3 ≤ _; decide)
  go_wp2_with fail
  refine (FI.out _ _ _ G3.out).mono ?_
  rintro e w3 ⟨rfl, hb3⟩
  rw [HF.out]
  have k3 : Hid (w3.heap[w.heap.size + 1]? = some (.cells #[.int .i64 0, .int .i64 0] 72 (0, 0))) := (hb3.block _ (by have := (Array.getElem?_eq_some_iff.1 k2.out).1; simp; omega)).trans (heap_past _ _ _ _ k2.out)
  have B3 : Hid (Below w.heap.size w w3) := (BU.out.alloc BU.out.size _).trans (hb3.mono (BU.out.alloc BU.out.size _).size)
  clear hb3 G3
  go_wp2_with (first
    | (refine wl_storeE (E := FltE) FltOk rfl _ _ rfl (w.heap.size + 1) (fltV (claF had c)) (flt_fits _) rfl rfl _ k3.out rfl _ rfl ?_))
  refine retE (E := FltE) FltOk rfl rfl (w.heap.size + 1) rfl (fltV (claF had c)) rfl (setRow_heap _ _ _ _ _ _ k3.out) ?_
  exact ⟨rfl, below_setRow B3.out (by omega) _⟩
end Go.Proofs.YtnbklmmampdbfaaDoor
namespace Go.Proofs.YtnbklmmampdbfaaDoor
open Go Go.RowKit
set_option maxRecDepth 20000

theorem raw_f {w : World} {b : Nat} {x : Raw} {u : Value} {ty : TypeId} {fr : Nat × Nat} (h : w.heap[b]? = some (.cells (rawV x u) ty fr)) :
    w.cell? ⟨b, 0, none⟩ = some (.int .i64 x.pos) ∧ w.cell? ⟨b, 1, none⟩ = some (.bool x.dflt) ∧ w.cell? ⟨b, 2, none⟩ = some (.int .i64 x.prio.n) ∧ w.cell? ⟨b, 4, none⟩ = some u ∧ w.cell? ⟨b, 5, none⟩ = some (.bool x.drop) ∧ w.cell? ⟨b, 6, none⟩ = some (.int .i64 x.port.n) := by
  refine ⟨?_, ?_, ?_, ?_, ?_, ?_⟩ <;> (rw [cell_of_row _ _ _ _ _ _ h]; rfl)
theorem raw_prio (x : Raw) (u : Value) : ∀ q, q < 2 → (rawV x u)[2 + q]? = (figV x.prio)[q]? := fun q hq => by
  rcases (show q = 0 ∨ q = 1 by omega) with rfl | rfl <;> rfl
theorem raw_port (x : Raw) (u : Value) : ∀ q, q < 2 → (rawV x u)[6 + q]? = (figV x.port)[q]? := fun q hq => by
  rcases (show q = 0 ∨ q = 1 by omega) with rfl | rfl <;> rfl
theorem ruleF_zero (x : Raw) : outF x.prio 0 65535 = ruleF x 0 := by
  unfold outF ruleF
  rw [List.take_zero]
  rfl
theorem NSl.take {α : Type} {E : El} {row : α → Value → Array Value} {R : World → α → Value → Prop} {w : World} {o : Option Addr} {n cap : Nat} {C : List α} (h : NSl E row R w (.slice o n cap) C) {k : Nat} (hk : k ≤ n) : NSl E row R w (.slice o k cap) (C.take k) := by
  obtain ⟨P, h1, ⟨o', cap', h2, h3, h4, h5⟩, h6⟩ := h
  simp only [Value.slice.injEq] at h2
  obtain ⟨rfl, rfl, rfl⟩ := h2
  have hl : (P.take k).length = k := by rw [List.length_take]; omega
  refine ⟨P.take k, by rw [List.map_take, h1], ⟨o, cap, by rw [hl], by rw [hl]; omega, h4, fun i hi => ?_⟩, fun p hp => h6 p (List.mem_of_mem_take hp)⟩
  rw [hl] at hi
  obtain ⟨g, off, cur, t, fr, e1, e2, e3⟩ := h5 i (by omega)
  refine ⟨g, off, cur, t, fr, e1, e2, fun j hj => ?_⟩
  rw [List.getElem_take]
  exact e3 j hj
theorem slice_to (b off n cap k : Nat) (hk : k ≤ cap) (_hm : cap ≤ 2 ^ 63 - 1) (W : World) : (Instr.sliceAt 68 (.slice (some ⟨b, off, none⟩) n cap) none (some (.int .i64 (k : Int))) none).run Tryd.prog W = .ok (.slice (some ⟨b, off, none⟩) k cap) W := by
  simp [go_sem, Tryd.underlying68]
  omega

set_option maxHeartbeats 4000000 in
theorem action7_any (x : Raw) (u : Value) (hu : ∃ o n m, u = .slice o n m) (w : World) :
    Calls Tryd.prog 48 #[.agg (rawV x u)] w fun e w' => e = .returned (.int .i64 (actOf x)) ∧ Below w.heap.size w w' := by
  obtain ⟨o, n, m, rfl⟩ := hu
  obtain ⟨-, -, -, -, c5, c6⟩ := raw_f (heap_new w (.cells (rawV x (.slice o n m)) 70) _ rfl)
  have HB : Hid (Below w.heap.size w (w.alloc (.cells (rawV x (.slice o n m)) 70))) := (Below.refl _ _).alloc (Nat.le_refl _) _
  cases hd : x.drop with
  | true =>
    rw [show actOf x = 0 by unfold actOf; rw [hd]; rfl]
    rw [hd] at c5
    go_enter Tryd.func48, Tryd.ntmps48
    go_wp2_with fail
    go_ret
    exact ⟨rfl, HB.out⟩
  | false =>
    rw [show actOf x = x.port.n by unfold actOf; rw [hd]; rfl]
    rw [hd] at c5
    go_enter Tryd.func48, Tryd.ntmps48
    go_wp2_with fail
    go_ret
    exact ⟨rfl, HB.out⟩

set_option maxHeartbeats 4000000 in
theorem actionF_any (x : Raw) (u : Value) (hu : ∃ o n m, u = .slice o n m) (w : World) :
    Calls Tryd.prog 31 #[.agg (rawV x u)] w fun e w' => e = .returned (.agg (fltV (actF x))) ∧ Below w.heap.size w w' := by
  obtain ⟨o, n, m, rfl⟩ := hu
  have OU : Hid (∀ (f : Fig) (low high : Int) W, Calls Tryd.prog 46 #[.agg (figV f), .int .i64 low, .int .i64 high] W fun x w' => x = .returned (.agg (fltV (outF f low high))) ∧ Below W.heap.size W w') := outside_any
  have b1 : Hid (((w.alloc (.cells (rawV x (.slice o n m)) 70)).alloc (.cells #[.int .i64 0, .int .i64 0] 72)).heap[w.heap.size]? = some (.cells (rawV x (.slice o n m)) 70 (0, 0))) := heap_past _ _ _ _ (heap_new _ _ _ rfl)
  have b2 : Hid (((w.alloc (.cells (rawV x (.slice o n m)) 70)).alloc (.cells #[.int .i64 0, .int .i64 0] 72)).heap[w.heap.size + 1]? = some (.cells #[.int .i64 0, .int .i64 0] 72 (0, 0))) := heap_new _ _ _ (by simp)
  have B0 : Hid (Below w.heap.size w ((w.alloc (.cells (rawV x (.slice o n m)) 70)).alloc (.cells #[.int .i64 0, .int .i64 0] 72))) := below2 _ _ _
  have c5 := (raw_f b1.out).2.2.2.2.1
  cases hd : x.drop with
  | true =>
    rw [show actF x = (0, 0) by unfold actF; rw [hd]; rfl]
    rw [hd] at c5
    go_enter Tryd.func31, Tryd.ntmps31
    go_wp2_with (first
      | (refine wl_storeE (E := FltE) FltOk rfl _ _ rfl (w.heap.size + 1) (fltV (0, 0)) (flt_fits _) rfl rfl _ b2.out rfl _ rfl ?_))
    refine retE (E := FltE) FltOk rfl rfl (w.heap.size + 1) rfl (fltV (0, 0)) rfl (setRow_heap _ _ _ _ _ _ b2.out) ?_
    exact ⟨rfl, below_setRow B0.out (by omega) _⟩
  | false =>
    rw [show actF x = outF x.port 1 99 by unfold actF outF; rw [hd]; rfl]
    rw [hd] at c5
    go_enter Tryd.func31, Tryd.ntmps31
    go_wp2_with (first
      | (refine wl_loadE (E := FigE) FigOk rfl _ rfl w.heap.size 6 rfl _ _ _ (figV x.port) rfl b1.out (raw_port x _) ?_))
    refine (OU.out _ _ _ _).mono ?_
    rintro e w1 ⟨rfl, hb1⟩
    have k2 : Hid (w1.heap[w.heap.size + 1]? = some (.cells #[.int .i64 0, .int .i64 0] 72 (0, 0))) := (hb1.block _ (by simp)).trans b2.out
    have B1 : Hid (Below w.heap.size w w1) := B0.out.trans (hb1.mono (by simp; omega))
    clear hb1
    go_wp2_with (first
      | (refine wl_storeE (E := FltE) FltOk rfl _ _ rfl (w.heap.size + 1) (fltV (outF x.port 1 99)) (flt_fits _) rfl rfl _ k2.out rfl _ rfl ?_))
    refine retE (E := FltE) FltOk rfl rfl (w.heap.size + 1) rfl (fltV (outF x.port 1 99)) rfl (setRow_heap _ _ _ _ _ _ k2.out) ?_
    exact ⟨rfl, below_setRow B1.out (by omega) _⟩

set_option maxHeartbeats 8000000 in
theorem ruleF_any (x : Raw) (u : Value) (w : World) (hu : ClasAt w x u) :
    Calls Tryd.prog 30 #[.agg (rawV x u)] w fun e w' => e = .returned (.agg (fltV (lineF x))) ∧ Below w.heap.size w w' := by
  have OU : Hid (∀ (f : Fig) (low high : Int) W, Calls Tryd.prog 46 #[.agg (figV f), .int .i64 low, .int .i64 high] W fun x w' => x = .returned (.agg (fltV (outF f low high))) ∧ Below W.heap.size W w') := outside_any
  have CL : Hid (∀ (had : List Cla) (c : Cla) (u va : Value) W, FigsAt W c u → NSl ClaE claV FigsAt W va had → Calls Tryd.prog 47 #[.agg (claV c u), va] W fun x w' => x = .returned (.agg (fltV (claF had c))) ∧ Below W.heap.size W w') := clauseF_any
  obtain ⟨o, cap, rfl, hc1, hc2⟩ := NSl.slice hu
  obtain ⟨n, hn⟩ : ∃ n, n = x.clauses.length := ⟨_, rfl⟩
  have HN : Hid (n = x.clauses.length) := hn
  rw [← hn] at hu hc1 ⊢
  have HU : Hid (ClasAt w x (.slice o n cap)) := hu
  unfold maxLen at hc2
  have b1 : Hid (((w.alloc (.cells (rawV x (.slice o n cap)) 70)).alloc (.cells #[.int .i64 0, .int .i64 0] 72)).heap[w.heap.size]? = some (.cells (rawV x (.slice o n cap)) 70 (0, 0))) := heap_past _ _ _ _ (heap_new _ _ _ rfl)
  have b2 : Hid (((w.alloc (.cells (rawV x (.slice o n cap)) 70)).alloc (.cells #[.int .i64 0, .int .i64 0] 72)).heap[w.heap.size + 1]? = some (.cells #[.int .i64 0, .int .i64 0] 72 (0, 0))) := heap_new _ _ _ (by simp)
  have B0 : Hid (Below w.heap.size w ((w.alloc (.cells (rawV x (.slice o n cap)) 70)).alloc (.cells #[.int .i64 0, .int .i64 0] 72))) := below2 _ _ _
  have c1 := (raw_f b1.out).2.1
  clear hu hn
  cases hd : x.dflt with
  | true =>
    rw [show lineF x = (0, 0) by unfold lineF; rw [hd]; rfl]
    rw [hd] at c1
    go_enter Tryd.func30, Tryd.ntmps30
    go_wp2_with (first
      | (refine wl_storeE (E := FltE) FltOk rfl _ _ rfl (w.heap.size + 1) (fltV (0, 0)) (flt_fits _) rfl rfl _ b2.out rfl _ rfl ?_))
    refine retE (E := FltE) FltOk rfl rfl (w.heap.size + 1) rfl (fltV (0, 0)) rfl (setRow_heap _ _ _ _ _ _ b2.out) ?_
    exact ⟨rfl, below_setRow B0.out (by omega) _⟩
  | false =>
    have HL : Hid (lineF x = ruleF x n) := by
      show _ = _
      rw [HN.out, ruleF_all]
      unfold lineF
      rw [hd]; rfl
    rw [hd] at c1
    have HD : Hid (x.dflt = false) := hd
    have ST : Hid (∀ k, (ruleF x k).1 ≠ 0 → ruleF x n = ruleF x k) := fun k h => by rw [HN.out]; exact ruleF_stays h
    have NX : Hid (∀ (k : Nat) c, x.clauses[k]? = some c → (ruleF x k).1 = 0 → claF (x.clauses.take k) c = ruleF x (k + 1)) := fun k c h1 h2 => (ruleF_next h1 h2).symm
    clear hd
    go_enter Tryd.func30, Tryd.ntmps30
    go_wp2_with (first
      | (refine wl_loadE (E := FigE) FigOk rfl _ rfl w.heap.size 2 rfl _ _ _ (figV x.prio) rfl b1.out (raw_prio x _) ?_))
    refine (OU.out _ _ _ _).mono ?_
    rintro e w1 ⟨rfl, hb1⟩
    rw [ruleF_zero]
    have k1 : Hid (w1.heap[w.heap.size]? = some (.cells (rawV x (.slice o n cap)) 70 (0, 0))) := (hb1.block _ (by simp; omega)).trans b1.out
    have k2 : Hid (w1.heap[w.heap.size + 1]? = some (.cells #[.int .i64 0, .int .i64 0] 72 (0, 0))) := (hb1.block _ (by simp)).trans b2.out
    have B1 : Hid (Below w.heap.size w w1) := B0.out.trans (hb1.mono (by simp; omega))
    clear hb1 b1 b2 B0 c1
    obtain ⟨G, hG⟩ : ∃ G, G = w1.heap.size := ⟨_, rfl⟩
    have hGw : w.heap.size + 1 < G := by rw [hG]; exact (Array.getElem?_eq_some_iff.1 k2.out).1
    have HG : Hid (G = w1.heap.size) := hG
    have KA : Hid ((w1.alloc (.cells (fltV (ruleF x 0)) 72)).heap[G]? = some (.cells (fltV (ruleF x 0)) 72 (0, 0)) ∧ (w1.alloc (.cells (fltV (ruleF x 0)) 72)).heap[w.heap.size]? = some (.cells (rawV x (.slice o n cap)) 70 (0, 0)) ∧ (w1.alloc (.cells (fltV (ruleF x 0)) 72)).heap[w.heap.size + 1]? = some (.cells #[.int .i64 0, .int .i64 0] 72 (0, 0)) ∧ Below w.heap.size w (w1.alloc (.cells (fltV (ruleF x 0)) 72))) := ⟨heap_new _ _ _ hG, heap_past _ _ _ _ k1.out, heap_past _ _ _ _ k2.out, B1.out.alloc B1.out.size _⟩
    go_wp2_with (first
      | (refine wl_storeE (E := FltE) FltOk rfl _ _ rfl w1.heap.size (fltV (ruleF x 0)) (flt_fits _) rfl rfl _ (heap_new _ _ _ rfl) rfl _ (setRow_new _ _ _ _ _ rfl) ?_))
    rw [← hG]
    clear hG
    go_loopw [4] (fun i wr => ∃ k : Nat, k ≤ n ∧ i = .int .i64 (k : Int) ∧ wr.heap[G]? = some (.cells (fltV (ruleF x k)) 72 (0, 0)) ∧ wr.heap[w.heap.size]? = some (.cells (rawV x (.slice o n cap)) 70 (0, 0)) ∧ wr.heap[w.heap.size + 1]? = some (.cells #[.int .i64 0, .int .i64 0] 72 (0, 0)) ∧ Below w.heap.size w wr) (fun i _ => n - (intOf i).toNat)
    case atStart => exact ⟨0, Nat.zero_le _, rfl, KA.out.1, KA.out.2.1, KA.out.2.2.1, KA.out.2.2.2⟩
    case round =>
      clear KA k1 k2 B1
      obtain ⟨k, hk, rfl, hr0, hr1, hr2, hb⟩ := hrel
      have R0 : Hid (wr.heap[G]? = some (.cells (fltV (ruleF x k)) 72 (0, 0))) := hr0
      have R1 : Hid (wr.heap[w.heap.size]? = some (.cells (rawV x (.slice o n cap)) 70 (0, 0))) := hr1
      have R2 : Hid (wr.heap[w.heap.size + 1]? = some (.cells #[.int .i64 0, .int .i64 0] 72 (0, 0))) := hr2
      have HB : Hid (Below w.heap.size w wr) := hb
      have f0 : wr.cell? ⟨G, 0, none⟩ = some (.int .i64 (ruleF x k).1) := by rw [cell_of_row _ _ _ _ _ _ R0.out]; rfl
      have f4 := (raw_f R1.out).2.2.2.1
      clear hr0 hr1 hr2 hb
      have fin : ∀ F, ruleF x n = F → wr.heap[G]? = some (.cells (fltV F) 72 (0, 0)) → lineF x = F := fun F h _ => by rw [HL.out]; exact h
      by_cases hlt : k < n
      · have hlt' : (k : Int) < (n : Int) := by omega
        by_cases hz : (ruleF x k).1 = 0
        · have hz' : ((ruleF x k).1 == 0) = true := by simp [hz]
          obtain ⟨g, off, cur, ty, fr, c, u', rfl, hg, hc, hCk, hcl⟩ := NSl.at (NSl.below figs_below HU.out HB.out) k hlt
          have HNX := NX.out k c hCk hz
          have CC : Hid (∀ W, Below wr.heap.size wr W → Calls Tryd.prog 47 #[.agg (claV c u'), .slice (some ⟨g, off, none⟩) k cap] W fun x1 w' => x1 = .returned (.agg (fltV (ruleF x (k + 1)))) ∧ Below W.heap.size W w') := fun W hbW => by
            have := CL.out (x.clauses.take k) c u' (.slice (some ⟨g, off, none⟩) k cap) W (figs_below _ _ _ _ hbW hcl) (NSl.below figs_below (NSl.take (NSl.below figs_below HU.out HB.out) (by omega)) hbW)
            rwa [HNX] at this
          have hsl := fun W => slice_to g off n cap k (by omega) hc2 W
          have k1 : wr.heap[g]? = some (.cells cur ty fr) := hg
          have H1 : Hid (∀ i, i < 5 → cur[off + k * 5 + i]? = (claV c u')[i]?) := hc
          have l4 : ∀ u : Later wr, u.world.cell? ⟨w.heap.size, 4, none⟩ = some (.slice (some ⟨g, off, none⟩) n cap) := later_cell7 R1.out rfl
          clear hg hc hCk hcl HNX fin
          go_wp2_with fail
          have ne1 := Later.ne wr
          refine wp_region_latertail 10 (by kernel_rfl) (by kernel_rfl) ?_
          simp only [List.take_succ_cons, List.take_zero, List.drop_succ_cons, List.drop_zero]
          go_big_quiet_step (rfl)
          go_big_quiet_step (rfl)
          go_big_quiet_step (rfl)
          go_big_quiet_step (rfl)
          refine qlE (E := ClaE) ClaOk rfl _ rfl g (off + k * 5) rfl cur ty fr (claV c u') rfl (later_block k1) H1.out ?_
          simp only [Act.put, List.setIfInBounds_toArray, List.set_cons_succ, List.set_cons_zero]
          go_big_quiet_step (rfl)
          go_big_quiet_step (rfl)
          go_big_quiet_step (rfl)
          go_big_quiet_step (rfl)
          go_big_quiet_want; go_big_quiet_op
          refine ⟨_, fun u => Calls.later_of (CC.out u.world u.below), ?_⟩
          go_big_quiet_on
          refine wpQuiet_nil ?_
          rintro w' ⟨v, rfl⟩
          have q0 : Hid (v.world.heap[G]? = some (.cells (fltV (ruleF x k)) 72 (0, 0))) := later_block R0.out _ ⟨v, rfl⟩
          have q1 : Hid (v.world.heap[w.heap.size]? = some (.cells (rawV x (.slice (some ⟨g, off, none⟩) n cap)) 70 (0, 0))) := later_block R1.out _ ⟨v, rfl⟩
          have q2 : Hid (v.world.heap[w.heap.size + 1]? = some (.cells #[.int .i64 0, .int .i64 0] 72 (0, 0))) := later_block R2.out _ ⟨v, rfl⟩
          have BV : Hid (Below w.heap.size w v.world) := HB.out.trans (v.below.mono HB.out.size)
          obtain ⟨W2, hW2⟩ : ∃ W2, W2 = v.world := ⟨_, rfl⟩
          rw [← hW2] at q0 q1 q2 BV ⊢
          clear hW2 l4 ne1 k1 R0 R1 R2 f0 f4
          go_wp2_with (first
            | (refine wl_storeE (E := FltE) FltOk rfl _ _ rfl G (fltV (ruleF x (k + 1))) (flt_fits _) rfl rfl _ q0.out rfl _ rfl ?_))
          go_roundw
          case rel => exact ⟨k + 1, by omega, by go_num, setRow_heap _ _ _ _ _ _ q0.out, (setRow_other _ _ _ _ (by omega)).trans q1.out, (setRow_other _ _ _ _ (by omega)).trans q2.out, below_setRow BV.out (by omega) _⟩
          case measure => simp [intOf]; omega
        · have hz' : ((ruleF x k).1 == 0) = false := by simp [hz]
          have hfin : Hid (lineF x = ruleF x k) := by rw [HL.out]; exact ST.out k hz
          clear hz fin
          go_wp2_with (first
            | (refine wl_loadE (E := FltE) FltOk rfl _ rfl G 0 rfl _ _ _ (fltV (ruleF x k)) rfl R0.out (own_cells _ _) ?_)
            | (refine wl_storeE (E := FltE) FltOk rfl _ _ rfl (w.heap.size + 1) (fltV (ruleF x k)) (flt_fits _) rfl rfl _ R2.out rfl _ rfl ?_))
          refine retE (E := FltE) FltOk rfl rfl (w.heap.size + 1) rfl (fltV (ruleF x k)) rfl (setRow_heap _ _ _ _ _ _ R2.out) ?_
          exact ⟨by rw [hfin.out], below_setRow HB.out (by omega) _⟩
      · have hlt' : ¬ (k : Int) < (n : Int) := by omega
        have hlt2 : decide ((k : Int) < (n : Int)) = false := by simp; omega
        obtain rfl : k = n := by omega
        clear hlt fin
        go_wp2_with (first
          | (refine wl_loadE (E := FltE) FltOk rfl _ rfl G 0 rfl _ _ _ (fltV (ruleF x k)) rfl R0.out (own_cells _ _) ?_)
          | (refine wl_storeE (E := FltE) FltOk rfl _ _ rfl (w.heap.size + 1) (fltV (ruleF x k)) (flt_fits _) rfl rfl _ R2.out rfl _ rfl ?_))
        refine retE (E := FltE) FltOk rfl rfl (w.heap.size + 1) rfl (fltV (ruleF x k)) rfl (setRow_heap _ _ _ _ _ _ R2.out) ?_
        exact ⟨by rw [HL.out], below_setRow HB.out (by omega) _⟩
end Go.Proofs.YtnbklmmampdbfaaDoor
namespace Go.Proofs.YtnbklmmampdbfaaDoor
open Go Go.RowKit
set_option maxRecDepth 20000

/-- The header behind the first k stores of 'put'. -/
def putN (L : List Int) (at0 size : Nat) (v : Int) : Nat → List Int
  | 0 => L
  | k + 1 => (putN L at0 size v k).set (at0 + k) (v / 2 ^ (8 * (size - 1 - k)) % 256)
theorem putN_length (L : List Int) (at0 size : Nat) (v : Int) (k : Nat) : (putN L at0 size v k).length = L.length := by
  induction k with
  | zero => rfl
  | succ k ih => simp [putN, ih]


set_option maxHeartbeats 1000000 in
theorem put_any (L : List Int) (hL : L.length = 13) (at0 size : Nat) (v : Int) (w : World) (hs : at0 + size ≤ 13) (hs4 : size ≤ 4) (_hv0 : 0 ≤ v) (_hv1 : v < 4294967296) :
    Calls Tryd.prog 103 #[.agg (hv L), .int .i64 at0, .int .i64 size, .int .u32 v] w fun e w' => e = .returned (.agg (hv (putN L at0 size v size))) ∧ Below w.heap.size w w' := by
  go_enter Tryd.func103, Tryd.ntmps103
  go_wp2
  go_loopw [11] (fun i wr => ∃ k : Nat, k ≤ size ∧ i = .int .i64 k ∧ wr = (w.alloc (.cells (hv (putN L at0 size v k)) 23)).alloc (.cells zero26 23)) (fun i _ => size - (intOf i).toNat)
  case atStart => exact ⟨0, Nat.zero_le _, rfl, rfl⟩
  case round =>
    obtain ⟨k, hk, rfl, rfl⟩ := hrel
    have hlen := putN_length L at0 size v k
    by_cases hlt : k < size
    · have hc := hv_at (putN L at0 size v k) (by omega) (at0 + k) (by omega)
      go_wp2
      go_roundw
      case rel => exact ⟨k + 1, by omega, by go_num, by rw [hv_set]; rfl⟩
      case measure => simp [intOf]; omega
    · obtain rfl : k = size := by omega
      go_wp2_with (first
        | (refine wl_load26 rfl _ rfl w.heap.size rfl (putN L at0 k v k) (heap_past _ _ _ _ (heap_new _ _ _ rfl)) (by omega) ?_)
        | (refine wl_store26 rfl _ _ rfl (w.heap.size + 1) (putN L at0 k v k) rfl rfl _ (heap_new _ _ _ (by simp)) rfl (by omega) _ (setRow_new _ _ _ _ _ (by simp)) ?_))
      refine ret26 (p := 8) rfl rfl (w.heap.size + 1) rfl (putN L at0 k v k) (by omega) (heap_new _ _ _ (by simp)) ⟨rfl, ?_⟩
      exact ((Below.refl _ _).alloc (Nat.le_refl _) _).alloc (by simp) _

theorem or_byte (a b : Int) (ha0 : 0 ≤ a) (ha : a < 16777216) (hb0 : 0 ≤ b) (hb : b < 256) : bits .or .u32 (a * 256 % 4294967296) (b % 4294967296) = a * 256 + b := by
  rw [show a * 256 % 4294967296 = a * 256 by omega, show b % 4294967296 = b by omega]
  exact bits_join .u32 32 (by decide) (fun n h0 h1 => by rw [IntKind.wrap_u32]; omega) 8 (a * 256) b (by omega) (by omega) (by omega) hb0 (by omega) (by omega)

/-- The number that the first k bytes behind 'at0' make. -/
def getN (L : List Int) (at0 : Nat) : Nat → Int
  | 0 => 0
  | k + 1 => getN L at0 k * 256 + L.getD (at0 + k) 0
theorem getN_bd (L : List Int) (hL : Byt L) (at0 : Nat) (k : Nat) : 0 ≤ getN L at0 k ∧ getN L at0 k < 256 ^ k := by
  induction k with
  | zero => simp [getN]
  | succ k ih =>
    have := hL.2 (at0 + k)
    simp only [getN, Int.pow_succ]
    omega

end Go.Proofs.YtnbklmmampdbfaaDoor
namespace Go.Proofs.YtnbklmmampdbfaaDoor
open Go Go.RowKit
set_option maxRecDepth 20000

theorem nth_q {c : Cla} {k : Nat} {f : Fig} (h : c.nums[k]? = some f) : nth c k = f.n := by unfold nth; rw [List.getD_eq_getElem?_getD, h]; rfl
def preN (c : Cla) : Nat → Int
  | 0 => 0
  | k + 1 => preN c k * 256 + nth c k
theorem preN_bd (c : Cla) (h : ∀ k, k < 4 → 0 ≤ nth c k ∧ nth c k ≤ 255) : ∀ k, k ≤ 4 → 0 ≤ preN c k ∧ preN c k < 256 ^ k
  | 0, _ => by simp [preN]
  | k + 1, hk => by
    have := preN_bd c h k (by omega)
    have h2 := h k (by omega)
    simp only [preN, Int.pow_succ]
    omega
theorem preN_four (c : Cla) : preN c 4 = (preC c).1 := by
  unfold preC
  simp only [preN]
  omega
theorem slice_four (b off n cap : Nat) (hk : 4 ≤ cap) (_hm : cap ≤ 2 ^ 63 - 1) (W : World) : (Instr.sliceAt 98 (.slice (some ⟨b, off, none⟩) n cap) none (some (.int .i64 4)) none).run Tryd.prog W = .ok (.slice (some ⟨b, off, none⟩) 4 cap) W := by
  simp [go_sem, Tryd.underlying98]
  omega
set_option maxHeartbeats 4000000 in
theorem prefix_any (c : Cla) (u : Value) (w : World) (hu : FigsAt w c u) (hl : c.nums.length = if c.slash then 5 else 4) (hb4 : ∀ k, k < 4 → 0 ≤ nth c k ∧ nth c k ≤ 255) :
    Calls Tryd.prog 49 #[.agg (claV c u)] w fun x w' => x = .returned (.tuple #[.int .u32 (preC c).1, .int .i64 (preC c).2]) ∧ Below w.heap.size w w' := by
  obtain ⟨o, cap, rfl, hc1, hc2⟩ := GSl.slice hu
  obtain ⟨n, hn⟩ : ∃ n, n = c.nums.length := ⟨_, rfl⟩
  have h4n : 4 ≤ n := by rw [hn, hl]; split <;> omega
  rw [← hn] at hu hc1 hl ⊢
  have HU : Hid (FigsAt w c (.slice o n cap)) := hu
  obtain ⟨g, off, cur, ty, fr, f0, rfl, hg, -, -⟩ := hu.at 0 (by omega)
  have HG : Hid (w.heap[g]? = some (.cells cur ty fr)) := hg
  unfold maxLen at hc2
  have hsl := fun W => slice_four g off n cap (by omega) hc2 W
  have BD : Hid (∀ k, k ≤ 4 → 0 ≤ preN c k ∧ preN c k < 256 ^ k) := preN_bd c hb4
  have H4 : Hid (∀ k, k < 4 → 0 ≤ nth c k ∧ nth c k ≤ 255) := hb4
  have b1 : Hid ((w.alloc (.cells (claV c (.slice (some ⟨g, off, none⟩) n cap)) 100)).heap[w.heap.size]? = some (.cells (claV c (.slice (some ⟨g, off, none⟩) n cap)) 100 (0, 0))) := heap_new _ _ _ rfl
  have c2 := (cla_f b1.out).2.2.1
  have HE : Hid (preN c 4 = (preC c).1) := preN_four c
  have HS : Hid ((preC c).2 = if c.slash then nth c 4 else 32) := rfl
  have HNL : Hid (n = if c.slash then 5 else 4) := hl
  clear hu hg hn hb4 hl
  go_enter Tryd.func49, Tryd.ntmps49
  go_wp2_with fail
  clear c2
  go_loopw [4, 11] (fun v i wr => ∃ k : Nat, k ≤ 4 ∧ i = .int .i64 (k : Int) ∧ v = .int .u32 (preN c k) ∧ wr.heap[w.heap.size]? = some (.cells (claV c (.slice (some ⟨g, off, none⟩) n cap)) 100 (0, 0)) ∧ Below w.heap.size w wr) (fun _ i _ => 4 - (intOf i).toNat)
  case atStart => exact ⟨0, Nat.zero_le _, rfl, rfl, b1.out, (Below.refl _ _).alloc (Nat.le_refl _) _⟩
  case round =>
    clear b1
    obtain ⟨k, hk, rfl, rfl, hr1, hb⟩ := hrel
    have R1 : Hid (wr.heap[w.heap.size]? = some (.cells (claV c (.slice (some ⟨g, off, none⟩) n cap)) 100 (0, 0))) := hr1
    have HB : Hid (Below w.heap.size w wr) := hb
    clear hr1 hb
    by_cases hlt : k < 4
    · obtain ⟨g', off', cur', ty', fr', f, e0, hg, hc, hFj⟩ := HU.out.at k (by omega)
      simp only [Option.some.injEq, Addr.mk.injEq, and_true] at e0
      obtain ⟨rfl, rfl⟩ := e0
      have K1 : Hid (wr.heap[g]? = some (.cells cur' ty' fr')) := (HB.out.block g (Array.getElem?_eq_some_iff.1 hg).1).trans hg
      have H1 : Hid (∀ q, q < 2 → cur'[off + k * 2 + q]? = (figV f)[q]?) := hc
      have hnk := nth_q hFj
      have hx := H4.out k hlt
      rw [hnk] at hx
      have HST : Hid (preN c (k + 1) = preN c k * 256 + f.n) := by rw [← hnk]; exact rfl
      have hp := BD.out k (by omega)
      have hp24 : preN c k < 16777216 := by
        have : (256 : Int) ^ k ≤ 256 ^ 3 := by
          rcases (show k = 0 ∨ k = 1 ∨ k = 2 ∨ k = 3 by omega) with h | h | h | h <;> subst h <;> decide
        have h2 : (256 : Int) ^ 3 = 16777216 := by decide
        omega
      have HOR : Hid (bits .or .u32 (preN c k * 256) f.n = preN c k * 256 + f.n) := by
        have h := or_byte (preN c k) f.n hp.1 hp24 hx.1 (by omega)
        rw [show preN c k * 256 % 4294967296 = preN c k * 256 by omega, show f.n % 4294967296 = f.n by omega] at h
        exact h
      obtain ⟨pk, hpk⟩ : ∃ pk, pk = preN c k := ⟨_, rfl⟩
      rw [← hpk] at HST HOR hp24 ⊢
      have hp0 : 0 ≤ pk := by rw [hpk]; exact hp.1
      have n0 : (wr.alloc (.cells (figV f) 67)).cell? ⟨wr.heap.size, 0, none⟩ = some (.int .i64 f.n) := by rw [cell_of_row _ _ _ _ _ _ (heap_new wr (.cells (figV f) 67) _ rfl)]; rfl
      have hlt' : (k : Int) < 4 := by omega
      have hx0 := hx.1
      have hx1 : f.n < 256 := by omega
      clear hg hc hFj hnk hp hpk hx
      go_wp2_with (first
        | (refine wl_loadE (E := FigE) FigOk rfl _ rfl g (off + k * 2) rfl cur' ty' fr' (figV f) rfl K1.out H1.out ?_)
        | (refine wl_storeE (E := FigE) FigOk rfl _ _ rfl wr.heap.size (figV f) (fig_fits _) rfl rfl _ (heap_new _ _ _ rfl) rfl _ (setRow_new _ _ _ _ _ rfl) ?_))
      go_roundw
      case rel =>
        refine ⟨k + 1, by omega, by go_num, ?_, heap_past _ _ _ _ R1.out, HB.out.alloc HB.out.size _⟩
        rw [HST.out, HOR.out]
      case measure => simp [intOf]; omega
    · obtain rfl : k = 4 := by omega
      have hlt' : ¬ (4 : Int) < 4 := by omega
      have c3 := (cla_f R1.out).2.2.2.1
      cases hs : c.slash with
      | false =>
        rw [hs] at c3 HS
        have hend : ¬ (((4 : Nat) : Int) < 4) := by omega
        clear hlt
        go_wp2_with fail
        go_ret2
        refine ⟨?_, HB.out⟩
        rw [HE.out, HS.out]
        rfl
      | true =>
        rw [hs] at c3 HS HNL
        have h5 : n = 5 := HNL.out
        obtain ⟨g', off', cur', ty', fr', f, e0, hg, hc, hFj⟩ := HU.out.at 4 (by omega)
        simp only [Option.some.injEq, Addr.mk.injEq, and_true] at e0
        obtain ⟨rfl, rfl⟩ := e0
        have l2 : ∀ u : Later wr, u.world.cell? ⟨w.heap.size, 2, none⟩ = some (.slice (some ⟨g, off, none⟩) n cap) := later_cell7 R1.out rfl
        have lg : ∀ u : Later wr, u.world.cell? ⟨g, off + 8, none⟩ = some (.int .i64 f.n) := by
          have hh : wr.heap[g]? = some (.cells cur' ty' fr') := (HB.out.block g (Array.getElem?_eq_some_iff.1 hg).1).trans hg
          refine later_cell7 hh ?_
          have := hc 0 (by decide)
          exact this
        have hnk := nth_q hFj
        have hS2 : (preC c).2 = f.n := by rw [HS.out, if_pos rfl, hnk]
        have HS2 : Hid ((preC c).2 = f.n) := hS2
        subst h5
        clear hlt hg hc hFj hnk hS2
        go_wp2_with fail
        have ne1 := Later.ne wr
        refine wp_region_later (by kernel_rfl) (by kernel_rfl) ?_
        repeat go_big_quiet_step (rfl)
        refine wpQuiet_nil ?_
        rintro w' ⟨v, rfl⟩
        go_wp2_with fail
        go_ret2
        refine ⟨?_, HB.out.trans (v.below.mono HB.out.size)⟩
        rw [HE.out, HS2.out]
        rfl

set_option maxHeartbeats 4000000 in
theorem ports7_any (c : Cla) (u : Value) (w : World) (hu : FigsAt w c u) (hl : 0 < c.nums.length) :
    Calls Tryd.prog 50 #[.agg (claV c u)] w fun x w' => x = .returned (.tuple #[.int .i64 (porC c).1, .int .i64 (porC c).2]) ∧ Below w.heap.size w w' := by
  obtain ⟨o, cap, rfl, hc1, hc2⟩ := GSl.slice hu
  unfold porC
  obtain ⟨n, hn⟩ : ∃ n, n = c.nums.length := ⟨_, rfl⟩
  rw [← hn] at hu hc1 hl ⊢
  obtain ⟨g, off, cur, ty, fr, f, rfl, hg, hc, hF⟩ := hu.at 0 hl
  obtain ⟨g', off', cur', ty', fr', f', e0, hg', hc', hF'⟩ := hu.at (n - 1) (by omega)
  simp only [Option.some.injEq, Addr.mk.injEq, and_true] at e0
  obtain ⟨rfl, rfl⟩ := e0
  rw [nth_q hF, nth_q hF']
  unfold maxLen at hc2
  obtain ⟨Wa, hWa⟩ : ∃ Wa, Wa = w.alloc (.cells (claV c (.slice (some ⟨g, off, none⟩) n cap)) 100) := ⟨_, rfl⟩
  have b1 : Wa.heap[w.heap.size]? = some (.cells (claV c (.slice (some ⟨g, off, none⟩) n cap)) 100 (0, 0)) := by rw [hWa]; exact heap_new _ _ _ rfl
  have BA : Hid (Below w.heap.size w Wa) := by rw [hWa]; exact (Below.refl _ _).alloc (Nat.le_refl _) _
  have l2 : ∀ u : Later Wa, u.world.cell? ⟨w.heap.size, 2, none⟩ = some (.slice (some ⟨g, off, none⟩) n cap) := later_cell7 b1 rfl
  have lg : ∀ u : Later Wa, u.world.cell? ⟨g, off, none⟩ = some (.int .i64 f.n) := later_cell7 (by rw [hWa]; exact heap_past _ _ _ _ hg) (by
    have := hc 0 (by decide)
    rw [show off + 0 * FigE.size + 0 = off by simp] at this
    exact this)
  have lg' : ∀ u : Later Wa, u.world.cell? ⟨g, off + (n - 1) * 2, none⟩ = some (.int .i64 f'.n) := later_cell7 (by rw [hWa]; exact heap_past _ _ _ _ hg') (by
    have := hc' 0 (by decide)
    exact this)
  have hn1 : ((n : Int) - 1).toNat = n - 1 := by omega
  have hp1 : (0 : Int) ≤ (n : Int) - 1 := by omega
  have hp2 : (n : Int) - 1 < (n : Int) := by omega
  have hp0 : (0 : Int) < (n : Int) := by omega
  have hix : ∀ W, (Instr.indexAt 98 (.slice (some ⟨g, off, none⟩) n cap) (.int .i64 ((n : Int) - 1))).run Tryd.prog W = .ok (.pointer (some ⟨g, off + (n - 1) * 2, none⟩)) W := fun W => by
    simp [go_sem, Tryd.underlying98]
    omega
  clear hu hg hc hF hg' hc' hF' hn b1
  go_enter Tryd.func50, Tryd.ntmps50
  go_wp2_with fail
  rw [← hWa]
  have ne1 := Later.ne Wa
  refine wp_region_later (by kernel_rfl) (by kernel_rfl) ?_
  repeat go_big_quiet_step (rfl)
  refine wpQuiet_nil ?_
  rintro w' ⟨v, rfl⟩
  go_wp2_with fail
  go_ret2
  exact ⟨rfl, BA.out.trans (v.below.mono BA.out.size)⟩
end Go.Proofs.YtnbklmmampdbfaaDoor
