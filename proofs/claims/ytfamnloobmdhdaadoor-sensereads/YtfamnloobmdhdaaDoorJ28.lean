import Derived.Test.YtfamnloobmdhdaaDoorJ27
import Derived.Test.YtfamnloobmdhdaaDoorJ17
import Derived.Test.YtfamnloobmdhdaaDoorJ21
import Derived.Test.YtfamnloobmdhdaaDoorJ20
namespace Go.Proofs.YtfamnloobmdhdaaDoor
open Go Go.RowKit
set_option maxRecDepth 20000

theorem nx_le {E : Nat} {T : List Tok} (hT : ∀ t ∈ T, t.pos ≤ E) (s : Ws) : (nx E T s).pos ≤ E := by
  cases h : T.drop s.i with
  | nil => rw [nx_nil h]; exact Nat.le_refl _
  | cons t T' => rw [(nx_cons h).1]; exact hT t (List.mem_of_mem_drop (by rw [h]; simp))
section
variable {E : Nat} {T : List Tok} (hT : ∀ t ∈ T, t.pos ≤ E)
include hT
theorem pw_wrong (e : Nat) {s : Ws} (h : s.pos ≤ E) : (wrong E T e s).pos ≤ E := by
  unfold wrong; split
  · exact nx_le hT s
  · exact h
theorem pw_kind (k : Nat) {s : Ws} (h : s.pos ≤ E) : (kindW E T k s).2.pos ≤ E := by
  unfold kindW stepW
  split
  · exact h
  · exact pw_wrong hT 8 h
theorem pw_fig {s : Ws} (h : s.pos ≤ E) : (figW E T s).2.pos ≤ E := pw_kind hT 2 h
theorem pw_dots : ∀ (n : Nat) {s : Ws}, s.pos ≤ E → (dotsW E T n s).2.pos ≤ E
  | 0, _, h => h
  | n + 1, _, h => pw_dots n (pw_fig hT (pw_kind hT 3 h))
theorem pw_opt (b : Bool) (k : Nat) {s : Ws} (h : s.pos ≤ E) : (optW E T b k s).2.pos ≤ E := by
  unfold optW
  split
  · exact pw_fig hT (s := stepW s) h
  · exact h
theorem pw_head (had : List Cla) {s : Ws} (h : s.pos ≤ E) : (headW E T had s).pos ≤ E := by
  unfold headW
  have h1 : (if !(isAddrW (nx E T s).text) && !(isPortW (nx E T s).text) && !((nx E T s).text == wProto) then wrong E T 8 s else s).pos ≤ E := by
    split
    · exact pw_wrong hT 8 h
    · exact h
  show (if _ then wrong E T 9 _ else _ : Ws).pos ≤ E
  split
  · exact pw_wrong hT 9 h1
  · exact h1
theorem pw_clause (had : List Cla) {s : Ws} (h : s.pos ≤ E) : (clauseW E T had s).2.pos ≤ E := by
  unfold clauseW
  refine pw_opt hT _ 5 (pw_opt hT _ 4 ?_)
  split
  · exact pw_dots hT 3 (pw_fig hT (pw_head hT had h))
  · exact pw_fig hT (pw_head hT had h)
theorem pw_clauses : ∀ (f : Nat) (had : List Cla) {s : Ws}, s.pos ≤ E → (clausesW E T f had s).2.pos ≤ E
  | 0, _, _, h => h
  | f + 1, had, s, h => by
    unfold clausesW
    split
    · exact pw_clauses f _ (pw_clause hT had h)
    · exact h
theorem pw_front {s : Ws} (h : s.pos ≤ E) : (frontW E T s).2.pos ≤ E := by
  unfold frontW
  split
  · exact h
  · exact pw_clauses hT _ _ (pw_fig hT h)
theorem pw_act {s : Ws} (h : s.pos ≤ E) : (actW E T s).2.pos ≤ E := by
  unfold actW
  split
  · exact h
  · refine pw_fig hT (s := stepW _) ?_
    show (if _ then s else wrong E T 8 s : Ws).pos ≤ E
    split
    · exact h
    · exact pw_wrong hT 8 h
theorem pw_end {s : Ws} (h : s.pos ≤ E) : (endW E T s).pos ≤ E := by
  unfold endW
  split
  · exact pw_wrong hT 8 h
  · exact h
theorem pw_row {s : Ws} (h : s.pos ≤ E) : (rowW E T s).2.pos ≤ E := pw_end hT (pw_act hT (pw_kind hT 6 (pw_front hT h)))
theorem pw_rows : ∀ (f : Nat) (had : List Raw) {s : Ws}, s.pos ≤ E → (rowsW E T f had s).2.pos ≤ E
  | 0, _, _, h => h
  | f + 1, had, s, h => by
    unfold rowsW
    split
    · split
      · exact pw_rows f had (s := stepW s) h
      · refine pw_rows f _ (pw_row hT ?_)
        split
        · exact pw_wrong hT 4 h
        · exact h
    · exact h
end
theorem lexT_end6 (S : List UInt8) (h0 : (lexT S).2.1 ≠ 0) : (lexT S).2.2 ≤ S.length := by
  unfold lexT at h0 ⊢
  by_cases h : 4096 < S.length
  · rw [if_pos h]; show 4096 ≤ _; omega
  · rw [if_neg h] at h0 ⊢
    cases hx : lexW 0 S with
    | ok l => rw [hx] at h0; exact absurd rfl h0
    | error x =>
      obtain ⟨e, p⟩ := x
      have := lexW_error S 0 e p hx
      show p ≤ _
      omega
theorem parseP_end (S : List UInt8) : (parseP S).2.1 = 0 ∨ ((parseP S).1 = [] ∧ (parseP S).2.2 ≤ S.length ∧ (parseP S).2.1 ≠ 0) := by
  by_cases hE : (lexT S).2.1 = 0
  · obtain ⟨T, hT, _, _, hP⟩ := parseP_ok hE
    have hd := does_rows S.length T (T.length + 1) [] ⟨0, 0, 0⟩ rfl
    rw [show T.drop (Ws.mk 0 0 0).i = T from rfl] at hd
    rw [hP]
    cases hx : takeL S.length (T.length + 1) [] T with
    | ok l => exact .inl rfl
    | error x =>
      rw [hx] at hd
      refine .inr ⟨rfl, ?_, hd.2.2⟩
      show x.2 ≤ _
      rw [← hd.2.1]
      refine pw_rows (fun t ht => ?_) _ _ (Nat.zero_le _)
      obtain ⟨i, hi⟩ := List.getElem?_of_mem ht
      have := ((lexW_places S 0 T hT).1 i t hi).2.1
      omega
  · rw [parseP_lex hE]
    exact .inr ⟨rfl, lexT_end6 S hE, hE⟩

theorem res_bind {ε α β : Type} {x : Except ε α} {f : α → Except ε β} {b : β} (h : x.bind f = .ok b) : ∃ a, x = .ok a ∧ f a = .ok b := by
  cases x with
  | ok a => exact ⟨a, rfl, h⟩
  | error e => cases h
theorem res_map {ε α β : Type} {x : Except ε α} {f : α → β} {b : β} (h : x.map f = .ok b) : ∃ a, x = .ok a ∧ f a = b := by
  cases x with
  | ok a => exact ⟨a, rfl, Except.ok.inj h⟩
  | error e => cases h
def FigIn (E : Nat) (f : Fig) : Prop := 0 ≤ f.pos ∧ f.pos ≤ (E : Int)
def ClaIn (E : Nat) (c : Cla) : Prop := (0 ≤ c.pos ∧ c.pos ≤ (E : Int)) ∧ ∀ f ∈ c.nums, FigIn E f
structure RawIn (E : Nat) (r : Raw) : Prop where
  pos : 0 ≤ r.pos ∧ r.pos ≤ (E : Int)
  prio : FigIn E r.prio
  cls : ∀ c ∈ r.clauses, ClaIn E c
  port : FigIn E r.port
def TokIn (E : Nat) (T : List Tok) : Prop := ∀ t ∈ T, t.pos ≤ E
theorem TokIn.head {E : Nat} {t : Tok} {T : List Tok} (h : TokIn E (t :: T)) : t.pos ≤ E := h t (by simp)
theorem TokIn.tail {E : Nat} {t : Tok} {T : List Tok} (h : TokIn E (t :: T)) : TokIn E T := fun x hx => h x (by simp [hx])
theorem takeK_pos {E k : Nat} {T : List Tok} {x : Tok × List Tok} (hT : TokIn E T) (h : takeK E k T = .ok x) : x.1.pos ≤ E ∧ TokIn E x.2 := by
  cases T with
  | nil => cases h
  | cons t T =>
    rw [takeK] at h
    split at h
    · cases h; exact ⟨hT.head, hT.tail⟩
    · cases h
theorem takeF_pos {E : Nat} {T : List Tok} {x : Fig × List Tok} (hT : TokIn E T) (h : takeF E T = .ok x) : FigIn E x.1 ∧ TokIn E x.2 := by
  obtain ⟨y, h1, rfl⟩ := res_map h
  obtain ⟨h2, h3⟩ := takeK_pos hT h1
  exact ⟨⟨by simp, by show ((y.1.pos : Nat) : Int) ≤ _; omega⟩, h3⟩
theorem takeD_pos {E : Nat} : ∀ (n : Nat) {T : List Tok} {x : List Fig × List Tok}, TokIn E T → takeD E n T = .ok x → (∀ f ∈ x.1, FigIn E f) ∧ TokIn E x.2
  | 0, T, x, hT, h => by cases h; exact ⟨by simp, hT⟩
  | n + 1, T, x, hT, h => by
    rw [takeD] at h
    obtain ⟨y, h1, h⟩ := res_bind h
    obtain ⟨z, h2, h⟩ := res_bind h
    obtain ⟨u, h3, rfl⟩ := res_map h
    have q1 := takeK_pos hT h1
    have q2 := takeF_pos q1.2 h2
    have q3 := takeD_pos n q2.2 h3
    refine ⟨fun f hf => ?_, q3.2⟩
    rcases List.mem_cons.1 hf with rfl | hf
    · exact q2.1
    · exact q3.1 f hf
theorem takeO_pos {E k : Nat} {T : List Tok} {x : Option Fig × List Tok} (hT : TokIn E T) (h : takeO E k T = .ok x) : (∀ f ∈ x.1.toList, FigIn E f) ∧ TokIn E x.2 := by
  cases T with
  | nil => cases h; exact ⟨by simp, hT⟩
  | cons t T =>
    rw [takeO] at h
    split at h
    · obtain ⟨y, h1, rfl⟩ := res_map h
      have q := takeF_pos hT.tail h1
      refine ⟨fun f hf => ?_, q.2⟩
      simp only [Option.toList_some, List.mem_singleton] at hf
      subst hf
      exact q.1
    · cases h; exact ⟨by simp, hT⟩
theorem takeC_pos {E : Nat} {had : List Cla} {t : Tok} {T : List Tok} {x : Cla × List Tok} (ht : t.pos ≤ E) (hT : TokIn E T) (h : takeC E had t T = .ok x) : ClaIn E x.1 ∧ TokIn E x.2 := by
  have hp : (0 : Int) ≤ (t.pos : Int) ∧ (t.pos : Int) ≤ (E : Int) := by omega
  rw [takeC] at h
  split at h
  · cases h
  · split at h
    · cases h
    · obtain ⟨y, h1, h⟩ := res_bind h
      have q1 := takeF_pos hT h1
      split at h
      · obtain ⟨z, h2, h⟩ := res_bind h
        obtain ⟨u, h3, rfl⟩ := res_map h
        have q2 := takeD_pos 3 q1.2 h2
        have q3 := takeO_pos q2.2 h3
        refine ⟨⟨hp, fun f hf => ?_⟩, q3.2⟩
        rcases List.mem_append.1 hf with hf | hf
        · rcases List.mem_cons.1 hf with rfl | hf
          · exact q1.1
          · exact q2.1 f hf
        · exact q3.1 f hf
      · split at h
        · obtain ⟨u, h3, rfl⟩ := res_map h
          have q3 := takeO_pos q1.2 h3
          refine ⟨⟨hp, fun f hf => ?_⟩, q3.2⟩
          rcases List.mem_cons.1 hf with rfl | hf
          · exact q1.1
          · exact q3.1 f hf
        · cases h
          refine ⟨⟨hp, fun f hf => ?_⟩, q1.2⟩
          simp only [List.mem_singleton] at hf
          subst hf
          exact q1.1
theorem takeCs_pos {E : Nat} : ∀ (n : Nat) {had : List Cla} {T : List Tok} {x : List Cla × List Tok}, (∀ c ∈ had, ClaIn E c) → TokIn E T → takeCs E n had T = .ok x → (∀ c ∈ x.1, ClaIn E c) ∧ TokIn E x.2
  | 0, had, T, x, hh, hT, h => by cases h; exact ⟨hh, hT⟩
  | n + 1, had, [], x, hh, hT, h => by cases h; exact ⟨hh, hT⟩
  | n + 1, had, t :: T, x, hh, hT, h => by
    rw [takeCs] at h
    split at h
    · obtain ⟨y, h1, h⟩ := res_bind h
      have q1 := takeC_pos hT.head hT.tail h1
      refine takeCs_pos n (fun c hc => ?_) q1.2 h
      rcases List.mem_append.1 hc with hc | hc
      · exact hh c hc
      · simp only [List.mem_singleton] at hc
        subst hc
        exact q1.1
    · cases h; exact ⟨hh, hT⟩
theorem takeA_pos {E : Nat} {T : List Tok} {x : (Bool × Fig) × List Tok} (hT : TokIn E T) (h : takeA E T = .ok x) : FigIn E x.1.2 ∧ TokIn E x.2 := by
  cases T with
  | nil => cases h
  | cons t T =>
    rw [takeA] at h
    split at h
    · cases h; exact ⟨⟨Int.le_refl _, by show (0 : Int) ≤ (E : Int); omega⟩, hT.tail⟩
    · split at h
      · obtain ⟨y, h1, rfl⟩ := res_map h
        exact takeF_pos hT.tail h1
      · cases h
theorem takeE_pos {E : Nat} {T : List Tok} {x : List Tok} (hT : TokIn E T) (h : takeE T = .ok x) : TokIn E x := by
  cases T with
  | nil => cases h; exact hT
  | cons t T =>
    rw [takeE] at h
    split at h
    · cases h; exact hT
    · cases h
theorem takeH_pos {E : Nat} {T : List Tok} {x : (Bool × Fig × List Cla) × List Tok} (hT : TokIn E T) (h : takeH E T = .ok x) : FigIn E x.1.2.1 ∧ (∀ c ∈ x.1.2.2, ClaIn E c) ∧ TokIn E x.2 := by
  cases T with
  | nil => cases h
  | cons t T =>
    rw [takeH] at h
    split at h
    · cases h; exact ⟨⟨Int.le_refl _, by show (0 : Int) ≤ (E : Int); omega⟩, by simp, hT.tail⟩
    · obtain ⟨y, h1, h⟩ := res_bind h
      obtain ⟨z, h2, rfl⟩ := res_map h
      have q1 := takeF_pos hT h1
      have q2 := takeCs_pos _ (by simp) q1.2 h2
      exact ⟨q1.1, q2.1, q2.2⟩
theorem posOf_le {E : Nat} {T : List Tok} (hT : TokIn E T) : posOf E T ≤ E := by
  cases T with
  | nil => exact Nat.le_refl _
  | cons t T => exact hT.head
theorem takeR_pos {E : Nat} {T : List Tok} {x : Raw × List Tok} (hT : TokIn E T) (h : takeR E T = .ok x) : RawIn E x.1 ∧ TokIn E x.2 := by
  have hp := posOf_le hT
  rw [takeR] at h
  obtain ⟨y, h1, h⟩ := res_bind h
  obtain ⟨z, h2, h⟩ := res_bind h
  obtain ⟨u, h3, h⟩ := res_bind h
  obtain ⟨v, h4, rfl⟩ := res_map h
  have q1 := takeH_pos hT h1
  have q2 := takeK_pos q1.2.2 h2
  have q3 := takeA_pos q2.2 h3
  exact ⟨⟨⟨by show (0 : Int) ≤ ((posOf E T : Nat) : Int); omega, by show ((posOf E T : Nat) : Int) ≤ _; omega⟩, q1.1, q1.2.1, q3.1⟩, takeE_pos q3.2 h4⟩
theorem takeL_pos {E : Nat} : ∀ (n : Nat) {had : List Raw} {T : List Tok} {l : List Raw}, (∀ r ∈ had, RawIn E r) → TokIn E T → takeL E n had T = .ok l → ∀ r ∈ l, RawIn E r
  | 0, had, T, x, hh, hT, h => by cases h; exact hh
  | n + 1, had, [], x, hh, hT, h => by cases h; exact hh
  | n + 1, had, t :: T, x, hh, hT, h => by
    rw [takeL] at h
    split at h
    · exact takeL_pos n hh hT.tail h
    · split at h
      · cases h
      · obtain ⟨y, h1, h⟩ := res_bind h
        have q1 := takeR_pos hT h1
        refine takeL_pos n (fun c hc => ?_) q1.2 h
        rcases List.mem_append.1 hc with hc | hc
        · exact hh c hc
        · simp only [List.mem_singleton] at hc
          subst hc
          exact q1.1
theorem parseP_in {S : List UInt8} (h : (parseP S).2.1 = 0) : ∀ r ∈ (parseP S).1, RawIn S.length r := by
  by_cases hE : (lexT S).2.1 = 0
  · obtain ⟨T, hT, _, _, hP⟩ := parseP_ok hE
    rw [hP] at h ⊢
    cases hx : takeL S.length (T.length + 1) [] T with
    | ok l =>
      refine takeL_pos _ (by simp) (fun t ht => ?_) hx
      obtain ⟨i, hi⟩ := List.getElem?_of_mem ht
      have := ((lexW_places S 0 T hT).1 i t hi).2.1
      omega
    | error x => intro r hr; simp at hr
  · rw [parseP_lex hE] at h
    exact absurd h hE

def InP (E : Nat) (x : Int × Int) : Prop := 0 ≤ x.2 ∧ x.2 ≤ (E : Int)
theorem InP.zero (E : Nat) : InP E (0, 0) := ⟨Int.le_refl _, by show (0 : Int) ≤ (E : Int); omega⟩
theorem InP.or {E : Nat} {a b : Int × Int} (ha : InP E a) (hb : InP E b) : InP E (orF a b) := by unfold orF; split <;> assumption
theorem InP.ite {E : Nat} {a b : Int × Int} {p : Prop} [Decidable p] (ha : InP E a) (hb : InP E b) : InP E (if p then a else b) := by split <;> assumption
theorem faultN_pos {E : Nat} {c : Cla} {a : Int} : ∀ {l : List Fig} {k : Nat}, (∀ f ∈ l, FigIn E f) → InP E (fltR (faultN c a k l))
  | [], _, _ => InP.zero E
  | x :: l, k, h => by
    rw [faultN]
    split
    · exact h x (by simp)
    · exact faultN_pos fun f hf => h f (by simp [hf])
theorem faultC_pos {E : Nat} {had : List Cla} {c : Cla} (h : ClaIn E c) : InP E (fltR (faultC had c)) := by
  unfold faultC
  split
  · exact h.1
  · split
    · exact h.1
    · exact faultN_pos h.2
theorem faultCs_pos {E : Nat} : ∀ {l had : List Cla}, (∀ c ∈ l, ClaIn E c) → InP E (fltR (faultCs had l))
  | [], _, _ => InP.zero E
  | c :: l, had, h => by
    rw [faultCs]
    have h1 := faultC_pos (had := had) (h c (by simp))
    cases hx : faultC had c with
    | ok _ => exact faultCs_pos fun d hd => h d (by simp [hd])
    | error e => rw [hx] at h1; exact h1
theorem faultR_pos {E : Nat} {r : Raw} (h : RawIn E r) : InP E (fltR (faultR r)) := by
  unfold faultR
  split
  · exact h.prio
  · exact faultCs_pos h.cls
theorem rowF_pos {E : Nat} {i : Nat} {had : Bool} {r : Raw} (h : RawIn E r) : InP E (rowF i had r) := by
  unfold rowF lineF actF
  exact .or (.ite h.pos (.zero E)) (.or (.ite h.pos (.zero E)) (.or (.ite (.zero E) (faultR_pos h)) (.or (.ite h.port (.zero E)) (.zero E))))
theorem check_pos {E : Nat} : ∀ (l : List Raw) (i : Nat) (had : Bool), (∀ r ∈ l, RawIn E r) → ∀ e p, checkGo (E : Int) i had l = .error (e, p) → 0 ≤ p ∧ p ≤ (E : Int)
  | [], i, had, _, e, p, h => by
    rw [check_nil] at h
    split at h
    · cases h
    · simp only [Except.error.injEq, Prod.mk.injEq] at h; omega
  | r :: l, i, had, hl, e, p, h => by
    by_cases hz : (rowF i had r).1 = 0
    · rw [(check_good _ i had r l hz).1] at h
      cases hx : checkGo (E : Int) (i + 1) (had || r.dflt) l with
      | ok m => rw [hx] at h; cases h
      | error y =>
        obtain ⟨e', p'⟩ := y
        rw [hx] at h
        simp only [Except.map, Except.error.injEq, Prod.mk.injEq] at h
        have := check_pos l _ _ (fun d hd => hl d (by simp [hd])) e' p' hx
        omega
    · obtain ⟨e', h1, h2⟩ := check_bad (E : Int) i had r l hz
      rw [h1] at h
      simp only [Except.error.injEq, Prod.mk.injEq] at h
      have := rowF_pos (i := i) (had := had) (hl r (by simp))
      unfold InP at this
      omega
/-- Either it is well formed, and something is in it; or a place within the text is told, or its end. -/
theorem readP_place (S : List UInt8) : ((readP S).2.1 = 0 ∧ 0 < (readP S).1.length ∧ (readP S).2.2 = 0) ∨ ((readP S).2.1 ≠ 0 ∧ (readP S).1 = [] ∧ 0 ≤ (readP S).2.2 ∧ (readP S).2.2 ≤ (S.length : Int)) := by
  rcases readP_cases S with ⟨h0, h, hz⟩ | ⟨h0, h⟩
  · refine .inl ⟨h0, ?_, hz⟩
    obtain ⟨_, h2, _⟩ := read_in h
    have := List.length_filter_le (fun x : Ent => x.dflt) (readP S).1
    omega
  · refine .inr ⟨h0, h, ?_⟩
    by_cases hE : (parseP S).2.1 = 0
    · rw [readP_good hE] at h0 ⊢
      unfold checkP at h0 ⊢
      cases hx : checkGo (S.length : Int) 0 false (parseP S).1 with
      | ok m => rw [hx] at h0; exact absurd rfl h0
      | error y =>
        obtain ⟨e, p⟩ := y
        exact check_pos _ _ _ (parseP_in hE) e p hx
    · rw [readP_bad hE]
      rcases parseP_end S with h1 | ⟨_, h2, _⟩
      · exact absurd h1 hE
      · show (0 : Int) ≤ ((parseP S).2.2 : Int) ∧ ((parseP S).2.2 : Int) ≤ _
        omega
end Go.Proofs.YtfamnloobmdhdaaDoor
namespace Go.Proofs.YtfamnloobmdhdaaDoor
open Go Go.RowKit
set_option maxRecDepth 20000

set_option maxHeartbeats 4000000 in
theorem rread_any (s : ByteArray) (hs : s.size ≤ maxLen) (w : World) :
    Calls Tryd.prog 11 #[.string s] w fun e w' => ∃ v, e = .returned (.tuple #[v, .int .i64 (readP s.data.toList).2.1, .int .i64 (readP s.data.toList).2.2]) ∧ EntsOwn w.heap.size w' (readP s.data.toList).1 v ∧ Below w.heap.size w w' := by
  have C1 : Hid (∀ W, Calls Tryd.prog 24 #[.string s] W fun e w' => ∃ v, e = .returned (.tuple #[v, .int .i64 ((parseP s.data.toList).2.1 : Nat), .int .i64 ((parseP s.data.toList).2.2 : Nat)]) ∧ RawsOwn W.heap.size w' (parseP s.data.toList).1 v ∧ Below W.heap.size W w') := rparse_any s hs
  have hlen : (s.data.toList.length : Int) = (s.size : Int) := by rw [← Lib.size_eq]
  have hz : (parseP s.data.toList).2.1 = 0 → readP s.data.toList = checkP (s.size : Int) (parseP s.data.toList).1 := fun h => by rw [readP_good h, hlen]
  have hb := @readP_bad s.data.toList
  obtain ⟨S, hS⟩ : ∃ S, S = s.data.toList := ⟨_, rfl⟩
  rw [← hS] at C1 hz hb ⊢
  have CK : Hid (∀ (l : List Raw) vl W, RawsAt W vl l → Calls Tryd.prog 15 #[vl, .int .i64 (s.size : Int)] W fun e w' => ∃ v, e = .returned (.tuple #[v, .int .i64 (checkP (s.size : Int) l).2.1, .int .i64 (checkP (s.size : Int) l).2.2]) ∧ EntsOwn W.heap.size w' (checkP (s.size : Int) l).1 v ∧ Below W.heap.size W w') := fun l vl W h => rcheck_any l vl _ W h
  obtain ⟨⟨R, E, A⟩, hP⟩ : ∃ x, x = parseP S := ⟨_, rfl⟩
  rw [← hP] at C1 hz hb
  simp only at C1 hz hb
  obtain ⟨X, hX⟩ : ∃ X, X = readP S := ⟨_, rfl⟩
  rw [← hX] at hz hb ⊢
  unfold maxLen at hs
  clear hS hP hX hlen
  by_cases hE : E = 0
  · subst hE
    obtain rfl := hz rfl
    clear hz hb
    go_enter Tryd.func11, Tryd.ntmps11
    go_wp2_with fail
    refine (C1.out _).mono ?_
    rintro e w1 ⟨v, rfl, ho1, hb1⟩
    have HR : Hid (RawsAt w1 v R) := raws_sl7 ho1
    have HB : Hid (Below w.heap.size w w1) := hb1
    clear ho1 hb1
    go_wp2_with fail
    refine (CK.out _ _ _ HR.out).mono ?_
    rintro e w2 ⟨v2, rfl, ho2, hb2⟩
    have HO : Hid (EntsOwn w.heap.size w2 (checkP (s.size : Int) R).1 v2) := gown_base ho2 HB.out.size
    have HB2 : Hid (Below w.heap.size w w2) := HB.out.trans (hb2.mono HB.out.size)
    clear ho2 hb2
    go_wp2_with fail
    go_ret3
    exact ⟨_, rfl, HO.out, HB2.out⟩
  · obtain rfl := hb hE
    have hne : ((E : Int) != 0) = true := by simp; omega
    clear hz hb hE
    go_enter Tryd.func11, Tryd.ntmps11
    go_wp2_with fail
    refine (C1.out _).mono ?_
    rintro e w1 ⟨v, rfl, ho1, hb1⟩
    have HB : Hid (Below w.heap.size w w1) := hb1
    clear ho1 hb1
    go_wp2_with fail
    go_ret3
    exact ⟨_, rfl, World.ownsRow_nil _ _ _ _, HB.out⟩

set_option maxHeartbeats 8000000 in
theorem lawSReads_any (s : ByteArray) (hs : s.size ≤ maxLen) (w : World) (hP : Places w) :
    Calls Tryd.prog 3 #[.string s] w fun e w' => e = .returned (.bool true) ∧ Below w.heap.size w w' := by
  have hp := hP.pos
  have AW : Hid (∀ W, Below w.heap.size w W → Calls Tryd.prog 9 #[] W fun e w' => e = .returned (.bool true) ∧ Below W.heap.size W w') := fun W hb => awake7_any W (hP.later hp hb)
  have C1 : Hid (∀ W, Calls Tryd.prog 10 #[.string s] W fun e w' => ∃ v, e = .returned (.tuple #[v, .int .i64 (readP s.data.toList).2.1, .int .i64 (readP s.data.toList).2.2]) ∧ EntsOwn W.heap.size w' (readP s.data.toList).1 v ∧ Below W.heap.size W w') := read_any s hs
  have C2 : Hid (∀ W, Calls Tryd.prog 11 #[.string s] W fun e w' => ∃ v, e = .returned (.tuple #[v, .int .i64 (readP s.data.toList).2.1, .int .i64 (readP s.data.toList).2.2]) ∧ EntsOwn W.heap.size w' (readP s.data.toList).1 v ∧ Below W.heap.size W w') := rread_any s hs
  have hend := readP_place s.data.toList
  rw [← Lib.size_eq] at hend
  obtain ⟨⟨M, E, A⟩, hT⟩ : ∃ T, T = readP s.data.toList := ⟨_, rfl⟩
  rw [← hT] at C1 C2 hend
  simp only at C1 C2 hend
  have CS : Hid (∀ W va vb, EntsAt W va M → EntsAt W vb M → Calls Tryd.prog 12 #[va, vb] W fun e w' => e = .returned (.bool true) ∧ Below W.heap.size W w') := fun W va vb ha hb => rsame_any M va vb W ha hb
  have HEND : Hid ((E = 0 ∧ 0 < M.length ∧ A = 0) ∨ (E ≠ 0 ∧ M = [] ∧ 0 ≤ A ∧ A ≤ (s.size : Int))) := hend
  have eE : (E != E) = false := by simp
  have eA : (A != A) = false := by simp
  unfold maxLen at hs
  clear hT hend hP hp
  go_enter Tryd.func3, Tryd.ntmps3
  go_wp2_with fail
  refine (AW.out _ (Below.refl _ _)).mono ?_
  rintro e w1 ⟨rfl, hb1⟩
  have B1 : Hid (Below w.heap.size w w1) := hb1
  clear hb1
  go_wp2_with fail
  refine (C1.out _).mono ?_
  rintro e w3 ⟨v, rfl, ho3, hb3⟩
  have B3 : Hid (Below w.heap.size w w3) := B1.out.trans (hb3.mono B1.out.size)
  have R3 : Hid (EntsAt w3 v M) := ents_sl ho3
  clear hb3 ho3 B1
  go_wp2_with fail
  refine (C2.out _).mono ?_
  rintro e w4 ⟨v', rfl, ho4, hb4⟩
  have B4 : Hid (Below w.heap.size w w4) := B3.out.trans (hb4.mono B3.out.size)
  have R4 : Hid (EntsAt w4 v M) := GSl.below R3.out hb4
  have S4 : Hid (EntsAt w4 v' M) := ents_sl ho4
  clear hb4 ho4 B3 R3
  obtain ⟨o, cap, rfl, -, hcap⟩ := GSl.slice R4.out
  unfold maxLen at hcap
  go_wp2_with fail
  refine (CS.out _ _ _ R4.out S4.out).mono ?_
  rintro e w5 ⟨rfl, hb5⟩
  have B5 : Hid (Below w.heap.size w w5) := B4.out.trans (hb5.mono B4.out.size)
  clear hb5 B4 R4 S4
  rcases HEND.out with ⟨rfl, hM, rfl⟩ | ⟨hE, hM, hA0, hA1⟩
  · have hM' : (0 : Int) < (M.length : Int) := by omega
    clear HEND hM eE eA
    go_wp2_with fail
    go_ret
    exact ⟨rfl, B5.out⟩
  · have hE0 : (E == 0) = false := by simp [hE]
    have hE1 : (E != 0) = true := by simp [hE]
    subst hM
    clear HEND hE
    go_wp2_with fail
    go_ret
    exact ⟨rfl, B5.out⟩
end Go.Proofs.YtfamnloobmdhdaaDoor
