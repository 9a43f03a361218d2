import Derived.Test.YtfamnloobmdhdaaDoorJ2
import Derived.Test.YtfamnloobmdhdaaDoorJ11
import Derived.Test.YtfamnloobmdhdaaDoorJ16
import Derived.Test.YtfamnloobmdhdaaDoorJ9
import Derived.Test.YtfamnloobmdhdaaDoorJ10
import Derived.LaidMore
import Derived.Lib.OthersKept
import Derived.Lib.LaidTab
import Derived.Lib.ItoaNum
namespace Go.Proofs.YtfamnloobmdhdaaDoor
open Go
set_option maxRecDepth 20000

/-- Where a walk through tokens stands, and what was wrong first. -/
structure Ws where
  i : Nat
  bad : Nat
  pos : Nat
/-- The token at hand. -/
def nx (E : Nat) (T : List Tok) (s : Ws) : Tok := T.getD s.i ⟨0, E, [], 0⟩
/-- The first fault counts. -/
def wrong (E : Nat) (T : List Tok) (e : Nat) (s : Ws) : Ws := if s.bad = 0 then ⟨s.i, e, (nx E T s).pos⟩ else s
def stepW (s : Ws) : Ws := ⟨s.i + 1, s.bad, s.pos⟩
def kindW (E : Nat) (T : List Tok) (k : Nat) (s : Ws) : Tok × Ws := (nx E T s, stepW (if (nx E T s).kind = k then s else wrong E T 8 s))
def wordW (E : Nat) (T : List Tok) (w : List UInt8) (s : Ws) : Bool := decide ((nx E T s).kind = 1) && (nx E T s).text == w
def figW (E : Nat) (T : List Tok) (s : Ws) : Fig × Ws := (⟨((kindW E T 2 s).1.num : Int), ((kindW E T 2 s).1.pos : Int)⟩, (kindW E T 2 s).2)
def dotsW (E : Nat) (T : List Tok) : Nat → Ws → List Fig × Ws
  | 0, s => ([], s)
  | n + 1, s => ((figW E T (kindW E T 3 s).2).1 :: (dotsW E T n (figW E T (kindW E T 3 s).2).2).1, (dotsW E T n (figW E T (kindW E T 3 s).2).2).2)
def optW (E : Nat) (T : List Tok) (b : Bool) (k : Nat) (s : Ws) : Option Fig × Ws := if b = true ∧ (nx E T s).kind = k then (some (figW E T (stepW s)).1, (figW E T (stepW s)).2) else (none, s)
/-- What is looked at before a clause's numbers. -/
def headW (E : Nat) (T : List Tok) (had : List Cla) (s : Ws) : Ws :=
  let s1 := if !(isAddrW (nx E T s).text) && !(isPortW (nx E T s).text) && !((nx E T s).text == wProto) then wrong E T 8 s else s
  stepW (if had.any (fun c => c.word == (nx E T s).text) then wrong E T 9 s1 else s1)
def clauseW (E : Nat) (T : List Tok) (had : List Cla) (s : Ws) : Cla × Ws :=
  let t := nx E T s
  let f := figW E T (headW E T had s)
  let d := if isAddrW t.text then dotsW E T 3 f.2 else ([], f.2)
  let o4 := optW E T (isAddrW t.text) 4 d.2
  let o5 := optW E T (isPortW t.text) 5 o4.2
  (⟨t.text, (t.pos : Int), f.1 :: (d.1 ++ o4.1.toList ++ o5.1.toList), o4.1.isSome, o5.1.isSome⟩, o5.2)
def clausesW (E : Nat) (T : List Tok) : Nat → List Cla → Ws → List Cla × Ws
  | 0, had, s => (had, s)
  | f + 1, had, s => if s.bad = 0 ∧ (nx E T s).kind = 1 then clausesW E T f (had ++ [(clauseW E T had s).1]) (clauseW E T had s).2 else (had, s)
def frontW (E : Nat) (T : List Tok) (s : Ws) : (Bool × Fig × List Cla) × Ws :=
  if wordW E T wDefault s then ((true, ⟨0, 0⟩, []), stepW s) else
    let f := figW E T s
    let c := clausesW E T (T.length - f.2.i) [] f.2
    ((false, f.1, c.1), c.2)
def actW (E : Nat) (T : List Tok) (s : Ws) : (Bool × Fig) × Ws :=
  if wordW E T wDrop s then ((true, ⟨0, 0⟩), stepW s) else
    let f := figW E T (stepW (if wordW E T wPort s then s else wrong E T 8 s))
    ((false, f.1), f.2)
def endW (E : Nat) (T : List Tok) (s : Ws) : Ws := if s.i < T.length ∧ (nx E T s).kind ≠ 7 then wrong E T 8 s else s
def rowW (E : Nat) (T : List Tok) (s : Ws) : Raw × Ws :=
  let h := frontW E T s
  let k := kindW E T 6 h.2
  let a := actW E T k.2
  (⟨((nx E T s).pos : Int), h.1.1, h.1.2.1, h.1.2.2, a.1.1, a.1.2⟩, endW E T a.2)
def rowsW (E : Nat) (T : List Tok) : Nat → List Raw → Ws → List Raw × Ws
  | 0, had, s => (had, s)
  | f + 1, had, s => if s.i < T.length ∧ s.bad = 0 then (if (nx E T s).kind = 7 then rowsW E T f had (stepW s) else
      rowsW E T f (had ++ [(rowW E T (if had.length = 64 then wrong E T 4 s else s)).1]) (rowW E T (if had.length = 64 then wrong E T 4 s else s)).2) else (had, s)

/-- What was wrong stays so. -/
def Keeps (s s' : Ws) : Prop := s.bad ≠ 0 → s'.bad = s.bad ∧ s'.pos = s.pos
theorem Keeps.refl (s : Ws) : Keeps s s := fun _ => ⟨rfl, rfl⟩
theorem Keeps.trans {a b c : Ws} (h1 : Keeps a b) (h2 : Keeps b c) : Keeps a c := fun h => by
  obtain ⟨e1, e2⟩ := h1 h
  obtain ⟨e3, e4⟩ := h2 (by rw [e1]; exact h)
  exact ⟨e3.trans e1, e4.trans e2⟩
theorem keeps_wrong (E : Nat) (T : List Tok) (e : Nat) (s : Ws) : Keeps s (wrong E T e s) := fun h => by unfold wrong; rw [if_neg h]; exact ⟨rfl, rfl⟩
theorem keeps_step (s : Ws) : Keeps s (stepW s) := fun _ => ⟨rfl, rfl⟩
theorem keeps_kind (E : Nat) (T : List Tok) (k : Nat) (s : Ws) : Keeps s (kindW E T k s).2 := by
  unfold kindW
  refine Keeps.trans ?_ (keeps_step _)
  split
  · exact Keeps.refl _
  · exact keeps_wrong E T 8 s
theorem keeps_fig (E : Nat) (T : List Tok) (s : Ws) : Keeps s (figW E T s).2 := keeps_kind E T 2 s
theorem keeps_dots (E : Nat) (T : List Tok) : ∀ (n : Nat) (s : Ws), Keeps s (dotsW E T n s).2
  | 0, s => Keeps.refl s
  | n + 1, s => ((keeps_kind E T 3 s).trans (keeps_fig E T _)).trans (keeps_dots E T n _)
theorem keeps_opt (E : Nat) (T : List Tok) (b : Bool) (k : Nat) (s : Ws) : Keeps s (optW E T b k s).2 := by
  unfold optW
  split
  · exact (keeps_step s).trans (keeps_fig E T _)
  · exact Keeps.refl s
theorem keeps_head (E : Nat) (T : List Tok) (had : List Cla) (s : Ws) : Keeps s (headW E T had s) := by
  unfold headW
  refine Keeps.trans ?_ (keeps_step _)
  split
  · refine Keeps.trans ?_ (keeps_wrong E T 9 _)
    split
    · exact keeps_wrong E T 8 s
    · exact Keeps.refl s
  · split
    · exact keeps_wrong E T 8 s
    · exact Keeps.refl s
theorem keeps_clause (E : Nat) (T : List Tok) (had : List Cla) (s : Ws) : Keeps s (clauseW E T had s).2 := by
  unfold clauseW
  refine (((keeps_head E T had s).trans (keeps_fig E T _)).trans ?_).trans ((keeps_opt E T _ 4 _).trans (keeps_opt E T _ 5 _))
  split
  · exact keeps_dots E T 3 _
  · exact Keeps.refl _
theorem keeps_clauses (E : Nat) (T : List Tok) : ∀ (f : Nat) (had : List Cla) (s : Ws), Keeps s (clausesW E T f had s).2
  | 0, _, s => Keeps.refl s
  | f + 1, had, s => by
    unfold clausesW
    split
    · exact (keeps_clause E T had s).trans (keeps_clauses E T f _ _)
    · exact Keeps.refl s
theorem keeps_front (E : Nat) (T : List Tok) (s : Ws) : Keeps s (frontW E T s).2 := by
  unfold frontW
  split
  · exact keeps_step s
  · exact (keeps_fig E T s).trans (keeps_clauses E T _ _ _)
theorem keeps_act (E : Nat) (T : List Tok) (s : Ws) : Keeps s (actW E T s).2 := by
  unfold actW
  split
  · exact keeps_step s
  · refine Keeps.trans (Keeps.trans ?_ (keeps_step _)) (keeps_fig E T _)
    split
    · exact Keeps.refl s
    · exact keeps_wrong E T 8 s
theorem keeps_end (E : Nat) (T : List Tok) (s : Ws) : Keeps s (endW E T s) := by
  unfold endW
  split
  · exact keeps_wrong E T 8 s
  · exact Keeps.refl s
theorem keeps_row (E : Nat) (T : List Tok) (s : Ws) : Keeps s (rowW E T s).2 :=
  (((keeps_front E T s).trans (keeps_kind E T 6 _)).trans (keeps_act E T _)).trans (keeps_end E T _)

/-- A walk does what is said of the tokens that are left. -/
def Does {α : Type} (T : List Tok) (s : Ws) (y : α × Ws) (r : Res (α × List Tok)) : Prop :=
  match r with
  | .ok (a, T') => y.1 = a ∧ y.2.bad = 0 ∧ y.2.pos = s.pos ∧ T.drop y.2.i = T'
  | .error (e, q) => y.2.bad = e ∧ y.2.pos = q ∧ e ≠ 0
theorem Does.bind {α β : Type} {T : List Tok} {s : Ws} {y : α × Ws} {r : Res (α × List Tok)} {z : β × Ws} {g : α × List Tok → Res (β × List Tok)} (h : Does T s y r) (hk : Keeps y.2 z.2)
    (h2 : ∀ a T', r = .ok (a, T') → y.1 = a → y.2.bad = 0 → T.drop y.2.i = T' → Does T y.2 z (g (a, T'))) : Does T s z (r.bind g) := by
  cases r with
  | error x =>
    obtain ⟨e, q⟩ := x
    obtain ⟨h1, h3, h4⟩ := h
    obtain ⟨k1, k2⟩ := hk (by rw [h1]; exact h4)
    exact ⟨k1.trans h1, k2.trans h3, h4⟩
  | ok x =>
    obtain ⟨a, T'⟩ := x
    obtain ⟨h1, h3, h4, h5⟩ := h
    have := h2 a T' rfl h1 h3 h5
    show Does T s z (g (a, T'))
    revert this
    generalize g (a, T') = r2
    intro this
    cases r2 with
    | error x => exact this
    | ok x => exact ⟨this.1, this.2.1, this.2.2.1.trans h4, this.2.2.2⟩
theorem Does.map {α β : Type} {T : List Tok} {s : Ws} {y : α × Ws} {r : Res (α × List Tok)} {z : β × Ws} {g : α × List Tok → β × List Tok} (h : Does T s y r) (hz : z.2 = y.2) (h2 : ∀ a T', r = .ok (a, T') → y.1 = a → g (a, T') = (z.1, T')) : Does T s z (r.map g) := by
  cases r with
  | error x =>
    obtain ⟨e, q⟩ := x
    obtain ⟨h1, h3, h4⟩ := h
    exact ⟨by rw [hz]; exact h1, by rw [hz]; exact h3, h4⟩
  | ok x =>
    obtain ⟨a, T'⟩ := x
    obtain ⟨h1, h3, h4, h5⟩ := h
    have e := h2 a T' rfl h1
    show Does T s z (.ok (g (a, T')))
    rw [e]
    exact ⟨rfl, by rw [hz]; exact h3, by rw [hz]; exact h4, by rw [hz]; exact h5⟩

theorem nx_nil {E : Nat} {T : List Tok} {s : Ws} (h : T.drop s.i = []) : nx E T s = ⟨0, E, [], 0⟩ := by
  unfold nx
  have : T.length ≤ s.i := List.drop_eq_nil_iff.1 h
  rw [List.getD, List.getElem?_eq_none this]; rfl
theorem nx_cons {E : Nat} {T : List Tok} {s : Ws} {t : Tok} {T' : List Tok} (h : T.drop s.i = t :: T') : nx E T s = t ∧ s.i < T.length ∧ T.drop (s.i + 1) = T' := by
  have hh : T[s.i]? = some t := by rw [← List.head?_drop, h]; rfl
  refine ⟨by unfold nx; rw [List.getD, hh]; rfl, (List.getElem?_eq_some_iff.1 hh).1, ?_⟩
  rw [← List.drop_drop, h]; rfl
theorem nx_pos (E : Nat) (T : List Tok) (s : Ws) : (nx E T s).pos = posOf E (T.drop s.i) := by
  cases h : T.drop s.i with
  | nil => rw [nx_nil h]; rfl
  | cons t T' => rw [(nx_cons h).1]; rfl
theorem wrong_is {E : Nat} {T : List Tok} {e : Nat} {s : Ws} (h : s.bad = 0) : wrong E T e s = ⟨s.i, e, (nx E T s).pos⟩ := by unfold wrong; rw [if_pos h]

theorem does_kind (E : Nat) (T : List Tok) (k : Nat) (hk : k ≠ 0) (s : Ws) (h : s.bad = 0) : Does T s (kindW E T k s) (takeK E k (T.drop s.i)) := by
  unfold kindW
  cases hd : T.drop s.i with
  | nil =>
    rw [nx_nil hd, if_neg (by simpa using (Ne.symm hk)), wrong_is h, nx_nil hd]
    exact ⟨rfl, rfl, by decide⟩
  | cons t T' =>
    obtain ⟨e1, e2, e3⟩ := nx_cons (E := E) hd
    rw [e1, show takeK E k (t :: T') = if t.kind = k then .ok (t, T') else .error (8, t.pos) from rfl]
    by_cases c : t.kind = k
    · rw [if_pos c, if_pos c]
      exact ⟨rfl, h, rfl, e3⟩
    · rw [if_neg c, if_neg c, wrong_is h, e1]
      exact ⟨rfl, rfl, by decide⟩
theorem does_fig (E : Nat) (T : List Tok) (s : Ws) (h : s.bad = 0) : Does T s (figW E T s) (takeF E (T.drop s.i)) :=
  (does_kind E T 2 (by decide) s h).map rfl fun a T' _ ha => by rw [← ha]; rfl
theorem does_dots (E : Nat) (T : List Tok) : ∀ (n : Nat) (s : Ws), s.bad = 0 → Does T s (dotsW E T n s) (takeD E n (T.drop s.i))
  | 0, s, h => ⟨rfl, h, rfl, rfl⟩
  | n + 1, s, h => by
    unfold dotsW takeD
    refine (does_kind E T 3 (by decide) s h).bind ((keeps_fig E T _).trans (keeps_dots E T n _)) fun a T' _ _ hb hT => ?_
    subst hT
    refine (does_fig E T _ hb).bind (keeps_dots E T n _) fun b T'' _ he hb2 hT2 => ?_
    subst hT2
    exact (does_dots E T n _ hb2).map rfl fun c T3 _ hc => by rw [← hc, ← he]
theorem does_opt (E : Nat) (T : List Tok) (k : Nat) (hk : k ≠ 0) (s : Ws) (h : s.bad = 0) : Does T s (optW E T true k s) (takeO E k (T.drop s.i)) := by
  unfold optW
  cases hd : T.drop s.i with
  | nil =>
    rw [if_neg (by rw [nx_nil hd]; exact fun c => hk c.2.symm)]
    exact ⟨rfl, h, rfl, hd⟩
  | cons t T' =>
    obtain ⟨e1, e2, e3⟩ := nx_cons (E := E) hd
    rw [show takeO E k (t :: T') = if t.kind = k then (takeF E T').map (fun y => (some y.1, y.2)) else .ok (none, t :: T') from rfl]
    by_cases c : t.kind = k
    · rw [if_pos ⟨rfl, by rw [e1]; exact c⟩, if_pos c, ← e3]
      exact (does_fig E T (stepW s) h).map rfl fun a T3 _ ha => by rw [← ha]
    · rw [if_neg (by rw [e1]; exact fun d => c d.2), if_neg c]
      exact ⟨rfl, h, rfl, hd⟩
theorem opt_no (E : Nat) (T : List Tok) (k : Nat) (s : Ws) : optW E T false k s = (none, s) := by unfold optW; rw [if_neg (by simp)]
theorem addr_port (w : List UInt8) (h : isAddrW w = true) : isPortW w = false := by
  unfold isAddrW at h
  simp only [Bool.or_eq_true, beq_iff_eq] at h
  rcases h with rfl | rfl <;> rfl
theorem does_clause (E : Nat) (T : List Tok) (had : List Cla) (s : Ws) (h : s.bad = 0) (t : Tok) (T' : List Tok) (hd : T.drop s.i = t :: T') : Does T s (clauseW E T had s) (takeC E had t T') := by
  obtain ⟨e1, e2, e3⟩ := nx_cons (E := E) hd
  unfold takeC
  by_cases c1 : (!(isAddrW t.text) && !(isPortW t.text) && !(t.text == wProto)) = true
  · rw [if_pos c1]
    have hh : (headW E T had s).bad = 8 ∧ (headW E T had s).pos = t.pos := by
      unfold headW
      rw [e1]
      simp only [c1, if_true]
      split
      · have := keeps_wrong E T 9 (wrong E T 8 s) (by rw [wrong_is h]; show (8 : Nat) ≠ 0; decide)
        rw [wrong_is h, e1] at this ⊢
        exact this
      · rw [wrong_is h, e1]; exact ⟨rfl, rfl⟩
    have hk : Keeps (headW E T had s) (clauseW E T had s).2 := by
      unfold clauseW
      refine ((keeps_fig E T _).trans ?_).trans ((keeps_opt E T _ 4 _).trans (keeps_opt E T _ 5 _))
      split
      · exact keeps_dots E T 3 _
      · exact Keeps.refl _
    obtain ⟨k1, k2⟩ := hk (by rw [hh.1]; decide)
    exact ⟨k1.trans hh.1, k2.trans hh.2, by decide⟩
  rw [if_neg c1]
  by_cases c2 : had.any (fun c => c.word == t.text) = true
  · rw [if_pos c2]
    have hh : (headW E T had s).bad = 9 ∧ (headW E T had s).pos = t.pos := by
      unfold headW
      rw [e1]
      simp only [c2, if_true]
      rw [if_neg c1, wrong_is h, e1]
      exact ⟨rfl, rfl⟩
    have hk : Keeps (headW E T had s) (clauseW E T had s).2 := by
      unfold clauseW
      refine ((keeps_fig E T _).trans ?_).trans ((keeps_opt E T _ 4 _).trans (keeps_opt E T _ 5 _))
      split
      · exact keeps_dots E T 3 _
      · exact Keeps.refl _
    obtain ⟨k1, k2⟩ := hk (by rw [hh.1]; decide)
    exact ⟨k1.trans hh.1, k2.trans hh.2, by decide⟩
  rw [if_neg c2]
  have hh : headW E T had s = stepW s := by
    unfold headW
    rw [e1]
    simp only [if_neg c1, if_neg c2]
  unfold clauseW
  simp only [hh, e1]
  have hs : Does T s (figW E T (stepW s)) (takeF E T') := by rw [← e3]; exact does_fig E T (stepW s) h
  refine hs.bind ?_ fun x T2 hr hx hb hT2 => ?_
  · refine Keeps.trans ?_ ((keeps_opt E T _ 4 _).trans (keeps_opt E T _ 5 _))
    split
    · exact keeps_dots E T 3 _
    · exact Keeps.refl _
  subst hT2
  by_cases c3 : isAddrW t.text = true
  · have c4 := addr_port t.text c3
    simp only [c3, if_true, c4]
    refine (does_dots E T 3 _ hb).bind ((keeps_opt E T _ 4 _).trans (keeps_opt E T _ 5 _)) fun y T3 _ hy hb3 hT3 => ?_
    subst hT3
    refine (does_opt E T 4 (by decide) _ hb3).map (by rw [opt_no]) fun z T4 _ hz => ?_
    rw [opt_no]
    simp [hx, hy, hz]
  · have c3' : isAddrW t.text = false := by simpa using c3
    simp only [c3', Bool.false_eq_true, if_false, opt_no]
    by_cases c4 : isPortW t.text = true
    · simp only [c4, if_true]
      refine (does_opt E T 5 (by decide) _ hb).map rfl fun z T4 _ hz => ?_
      simp [hx, hz]
    · have c4' : isPortW t.text = false := by simpa using c4
      simp only [c4', Bool.false_eq_true, if_false, opt_no]
      exact ⟨by simp [hx], hb, rfl, rfl⟩
theorem does_clauses (E : Nat) (T : List Tok) : ∀ (f : Nat) (had : List Cla) (s : Ws), s.bad = 0 → Does T s (clausesW E T f had s) (takeCs E f had (T.drop s.i))
  | 0, had, s, h => ⟨rfl, h, rfl, rfl⟩
  | f + 1, had, s, h => by
    unfold clausesW
    cases hd : T.drop s.i with
    | nil =>
      rw [if_neg (by rw [nx_nil hd]; exact fun c => absurd (show (0 : Nat) = 1 from c.2) (by decide))]
      exact ⟨rfl, h, rfl, hd⟩
    | cons t T' =>
      obtain ⟨e1, e2, e3⟩ := nx_cons (E := E) hd
      rw [show takeCs E (f + 1) had (t :: T') = if t.kind = 1 then (takeC E had t T').bind (fun x => takeCs E f (had ++ [x.1]) x.2) else .ok (had, t :: T') from rfl]
      by_cases c : t.kind = 1
      · rw [if_pos ⟨h, by rw [e1]; exact c⟩, if_pos c]
        refine (does_clause E T had s h t T' hd).bind (keeps_clauses E T f _ _) fun x T2 _ hx hb hT2 => ?_
        subst hT2
        rw [← hx]
        exact does_clauses E T f _ _ hb
      · rw [if_neg (by rw [e1]; exact fun d => c d.2), if_neg c]
        exact ⟨rfl, h, rfl, hd⟩
theorem word_cons {E : Nat} {T : List Tok} {s : Ws} {t : Tok} {T' : List Tok} (hd : T.drop s.i = t :: T') (w : List UInt8) : (wordW E T w s = true) ↔ (t.kind = 1 ∧ t.text = w) := by
  unfold wordW
  rw [(nx_cons (E := E) hd).1]
  simp
theorem word_nil {E : Nat} {T : List Tok} {s : Ws} (hd : T.drop s.i = []) (w : List UInt8) : wordW E T w s = false := by
  unfold wordW
  rw [nx_nil hd]
  rfl
theorem does_front (E : Nat) (T : List Tok) (s : Ws) (h : s.bad = 0) : Does T s (frontW E T s) (takeH E (T.drop s.i)) := by
  unfold frontW
  have hf : Does T s (((false, (figW E T s).1, (clausesW E T (T.length - (figW E T s).2.i) [] (figW E T s).2).1) : Bool × Fig × List Cla), (clausesW E T (T.length - (figW E T s).2.i) [] (figW E T s).2).2)
      ((takeF E (T.drop s.i)).bind fun x => (takeCs E x.2.length [] x.2).map fun y => ((false, x.1, y.1), y.2)) := by
    refine (does_fig E T s h).bind (keeps_clauses E T _ _ _) fun x T2 _ hx hb hT2 => ?_
    subst hT2
    rw [show (T.drop (figW E T s).2.i).length = T.length - (figW E T s).2.i from List.length_drop]
    exact (does_clauses E T _ [] _ hb).map rfl fun y T3 _ hy => by rw [← hy, ← hx]
  cases hd : T.drop s.i with
  | nil =>
    rw [word_nil hd, if_neg (by decide)]
    rw [hd] at hf
    exact hf
  | cons t T' =>
    obtain ⟨e1, e2, e3⟩ := nx_cons (E := E) hd
    rw [show takeH E (t :: T') = if t.kind = 1 ∧ t.text = wDefault then .ok ((true, ⟨0, 0⟩, []), T') else (takeF E (t :: T')).bind fun x => (takeCs E x.2.length [] x.2).map fun y => ((false, x.1, y.1), y.2) from rfl]
    by_cases c : t.kind = 1 ∧ t.text = wDefault
    · rw [if_pos c, if_pos ((word_cons hd wDefault).2 c)]
      exact ⟨rfl, h, rfl, e3⟩
    · rw [if_neg c, if_neg (fun d => c ((word_cons hd wDefault).1 d))]
      rw [hd] at hf
      exact hf
theorem does_act (E : Nat) (T : List Tok) (s : Ws) (h : s.bad = 0) : Does T s (actW E T s) (takeA E (T.drop s.i)) := by
  unfold actW
  cases hd : T.drop s.i with
  | nil =>
    rw [word_nil hd, word_nil hd, if_neg (by decide), if_neg (by decide)]
    obtain ⟨k1, k2⟩ := (keeps_step (wrong E T 8 s)).trans (keeps_fig E T _) (by rw [wrong_is h]; show (8 : Nat) ≠ 0; decide)
    rw [wrong_is h, nx_nil hd] at k1 k2
    refine ⟨?_, ?_, by decide⟩
    · rw [wrong_is h, nx_nil hd]; exact k1
    · rw [wrong_is h, nx_nil hd]; exact k2
  | cons t T' =>
    obtain ⟨e1, e2, e3⟩ := nx_cons (E := E) hd
    rw [show takeA E (t :: T') = if t.kind = 1 ∧ t.text = wDrop then .ok ((true, ⟨0, 0⟩), T') else if t.kind = 1 ∧ t.text = wPort then (takeF E T').map (fun x => ((false, x.1), x.2)) else .error (8, t.pos) from rfl]
    by_cases c : t.kind = 1 ∧ t.text = wDrop
    · rw [if_pos c, if_pos ((word_cons hd wDrop).2 c)]
      exact ⟨rfl, h, rfl, e3⟩
    · rw [if_neg c, if_neg (fun d => c ((word_cons hd wDrop).1 d))]
      by_cases c2 : t.kind = 1 ∧ t.text = wPort
      · rw [if_pos c2, if_pos ((word_cons hd wPort).2 c2), ← e3]
        exact (does_fig E T (stepW s) h).map rfl fun a T3 _ ha => by rw [← ha]
      · rw [if_neg c2, if_neg (fun d => c2 ((word_cons hd wPort).1 d))]
        obtain ⟨k1, k2⟩ := (keeps_step (wrong E T 8 s)).trans (keeps_fig E T _) (by rw [wrong_is h]; show (8 : Nat) ≠ 0; decide)
        rw [wrong_is h, e1] at k1 k2
        refine ⟨?_, ?_, by decide⟩
        · rw [wrong_is h, e1]; exact k1
        · rw [wrong_is h, e1]; exact k2
theorem does_end (E : Nat) (T : List Tok) (s : Ws) (h : s.bad = 0) : Does T s ((), endW E T s) ((takeE (T.drop s.i)).map fun u => ((), u)) := by
  unfold endW
  cases hd : T.drop s.i with
  | nil =>
    rw [if_neg (fun c => absurd (List.drop_eq_nil_iff.1 hd) (by omega))]
    exact ⟨rfl, h, rfl, hd⟩
  | cons t T' =>
    obtain ⟨e1, e2, e3⟩ := nx_cons (E := E) hd
    rw [show takeE (t :: T') = if t.kind = 7 then .ok (t :: T') else .error (8, t.pos) from rfl]
    by_cases c : t.kind = 7
    · rw [if_pos c, if_neg (by rw [e1]; exact fun d => d.2 c)]
      exact ⟨rfl, h, rfl, hd⟩
    · rw [if_neg c, if_pos ⟨e2, by rw [e1]; exact c⟩, wrong_is h, e1]
      exact ⟨rfl, rfl, by decide⟩
theorem does_row (E : Nat) (T : List Tok) (s : Ws) (h : s.bad = 0) : Does T s (rowW E T s) (takeR E (T.drop s.i)) := by
  unfold rowW takeR
  refine (does_front E T s h).bind (((keeps_kind E T 6 _).trans (keeps_act E T _)).trans (keeps_end E T _)) fun x T2 _ hx hb hT2 => ?_
  subst hT2
  refine (does_kind E T 6 (by decide) _ hb).bind ((keeps_act E T _).trans (keeps_end E T _)) fun y T3 _ hy hb3 hT3 => ?_
  subst hT3
  refine (does_act E T _ hb3).bind (keeps_end E T _) fun z T4 _ hz hb4 hT4 => ?_
  subst hT4
  have he := does_end E T _ hb4
  rw [← nx_pos, ← hx, ← hz]
  revert he
  cases takeE (T.drop (actW E T (kindW E T 6 (frontW E T s).2).2).2.i) with
  | error q => exact fun he => he
  | ok u => exact fun he => ⟨rfl, he.2⟩
/-- THE WALK THROUGH THE TOKENS comes to the lines, or to what is wrong first. -/
theorem does_rows (E : Nat) (T : List Tok) : ∀ (f : Nat) (had : List Raw) (s : Ws), s.bad = 0 → match takeL E f had (T.drop s.i) with
    | .ok l => (rowsW E T f had s).2.bad = 0 ∧ (rowsW E T f had s).1 = l
    | .error x => (rowsW E T f had s).2.bad = x.1 ∧ (rowsW E T f had s).2.pos = x.2 ∧ x.1 ≠ 0
  | 0, had, s, h => ⟨h, rfl⟩
  | f + 1, had, s, h => by
    have stay : ∀ (g : Nat) (had : List Raw) (s : Ws), s.bad ≠ 0 → rowsW E T g had s = (had, s) := fun g had s hb => by
      cases g with
      | zero => rfl
      | succ g => unfold rowsW; rw [if_neg (fun c => hb c.2)]
    cases hd : T.drop s.i with
    | nil =>
      have hR : rowsW E T (f + 1) had s = (had, s) := by
        unfold rowsW
        rw [if_neg (fun c => absurd (List.drop_eq_nil_iff.1 hd) (by omega))]
      rw [hR]
      exact ⟨h, rfl⟩
    | cons t T' =>
      obtain ⟨e1, e2, e3⟩ := nx_cons (E := E) hd
      have hL : takeL E (f + 1) had (t :: T') = if t.kind = 7 then takeL E f had T' else if had.length = 64 then .error (4, t.pos) else (takeR E (t :: T')).bind (fun x => takeL E f (had ++ [x.1]) x.2) := rfl
      have hR : rowsW E T (f + 1) had s = if t.kind = 7 then rowsW E T f had (stepW s) else rowsW E T f (had ++ [(rowW E T (if had.length = 64 then wrong E T 4 s else s)).1]) (rowW E T (if had.length = 64 then wrong E T 4 s else s)).2 := by
        rw [rowsW, if_pos ⟨e2, h⟩, e1]
      by_cases c : t.kind = 7
      · rw [if_pos c] at hL hR
        rw [hL, hR]
        have := does_rows E T f had (stepW s) h
        rw [show (stepW s).i = s.i + 1 from rfl, e3] at this
        exact this
      · rw [if_neg c] at hL hR
        by_cases c2 : had.length = 64
        · rw [if_pos c2] at hL
          simp only [if_pos c2] at hR
          rw [hL, hR]
          obtain ⟨k1, k2⟩ := keeps_row E T (wrong E T 4 s) (by rw [wrong_is h]; show (4 : Nat) ≠ 0; decide)
          have hw : (wrong E T 4 s).bad = 4 ∧ (wrong E T 4 s).pos = t.pos := by rw [wrong_is h, e1]; exact ⟨rfl, rfl⟩
          rw [stay _ _ _ (by rw [k1, hw.1]; decide)]
          exact ⟨k1.trans hw.1, k2.trans hw.2, by show (4 : Nat) ≠ 0; decide⟩
        · rw [if_neg c2] at hL
          simp only [if_neg c2] at hR
          rw [hL, hR]
          have hr := does_row E T s h
          rw [hd] at hr
          cases hx : takeR E (t :: T') with
          | error x =>
            rw [hx] at hr
            obtain ⟨h1, h2, h3⟩ := hr
            rw [stay _ _ _ (by rw [h1]; exact h3)]
            exact ⟨h1, h2, h3⟩
          | ok x =>
            rw [hx] at hr
            obtain ⟨a, T2⟩ := x
            obtain ⟨h1, h2, _, h4⟩ := hr
            have := does_rows E T f (had ++ [(rowW E T s).1]) (rowW E T s).2 h2
            rw [h4, h1] at this
            rw [h1]
            exact this
/-! How far a walk goes. -/
theorem wrong_i (E : Nat) (T : List Tok) (e : Nat) (s : Ws) : (wrong E T e s).i = s.i := by unfold wrong; split <;> rfl
theorem kind_i (E : Nat) (T : List Tok) (k : Nat) (s : Ws) : (kindW E T k s).2.i = s.i + 1 := by
  unfold kindW stepW
  split
  · rfl
  · simp [wrong_i]
theorem fig_i (E : Nat) (T : List Tok) (s : Ws) : (figW E T s).2.i = s.i + 1 := kind_i E T 2 s
theorem dots_i (E : Nat) (T : List Tok) : ∀ (n : Nat) (s : Ws), (dotsW E T n s).2.i = s.i + 2 * n
  | 0, s => rfl
  | n + 1, s => by
    have := dots_i E T n (figW E T (kindW E T 3 s).2).2
    rw [fig_i, kind_i] at this
    rw [dotsW]
    show (dotsW E T n (figW E T (kindW E T 3 s).2).2).2.i = _
    omega
theorem opt_i (E : Nat) (T : List Tok) (b : Bool) (k : Nat) (s : Ws) : s.i ≤ (optW E T b k s).2.i ∧ (optW E T b k s).2.i ≤ s.i + 2 := by
  unfold optW
  split
  · have := fig_i E T (stepW s)
    have h2 : (stepW s).i = s.i + 1 := rfl
    constructor <;> (show _ ≤ _; simp only; omega)
  · exact ⟨Nat.le_refl _, Nat.le_add_right _ _⟩
theorem head_i (E : Nat) (T : List Tok) (had : List Cla) (s : Ws) : (headW E T had s).i = s.i + 1 := by
  unfold headW stepW
  simp only
  split
  · rw [wrong_i]; split <;> simp [wrong_i]
  · split <;> simp [wrong_i]
theorem clause_i (E : Nat) (T : List Tok) (had : List Cla) (s : Ws) : s.i + 2 ≤ (clauseW E T had s).2.i ∧ (clauseW E T had s).2.i ≤ s.i + 12 := by
  unfold clauseW
  simp only
  have h1 := head_i E T had s
  have h2 := fig_i E T (headW E T had s)
  have h3 : (headW E T had s).i + 1 ≤ (if isAddrW (nx E T s).text = true then dotsW E T 3 (figW E T (headW E T had s)).2 else ([], (figW E T (headW E T had s)).2)).2.i ∧ (if isAddrW (nx E T s).text = true then dotsW E T 3 (figW E T (headW E T had s)).2 else ([], (figW E T (headW E T had s)).2)).2.i ≤ (headW E T had s).i + 7 := by
    split
    · have := dots_i E T 3 (figW E T (headW E T had s)).2
      omega
    · show _ ≤ (figW E T (headW E T had s)).2.i ∧ (figW E T (headW E T had s)).2.i ≤ _
      omega
  revert h3
  generalize (if isAddrW (nx E T s).text = true then dotsW E T 3 (figW E T (headW E T had s)).2 else ([], (figW E T (headW E T had s)).2)) = d
  intro h3
  have h4 := opt_i E T (isAddrW (nx E T s).text) 4 d.2
  have h5 := opt_i E T (isPortW (nx E T s).text) 5 (optW E T (isAddrW (nx E T s).text) 4 d.2).2
  omega
theorem kind1_lt {E : Nat} {T : List Tok} {s : Ws} (h : (nx E T s).kind = 1) : s.i < T.length := by
  by_cases hi : s.i < T.length
  · exact hi
  · rw [nx_nil (List.drop_eq_nil_iff.2 (by omega))] at h
    cases h
theorem clauses_i (E : Nat) (T : List Tok) : ∀ (f : Nat) (had : List Cla) (s : Ws), s.i ≤ T.length + 12 → s.i ≤ (clausesW E T f had s).2.i ∧ (clausesW E T f had s).2.i ≤ T.length + 12
  | 0, _, s, h => ⟨Nat.le_refl _, h⟩
  | f + 1, had, s, h => by
    unfold clausesW
    split
    · rename_i hc
      have h1 := kind1_lt hc.2
      have h2 := clause_i E T had s
      have h3 := clauses_i E T f (had ++ [(clauseW E T had s).1]) (clauseW E T had s).2 (by omega)
      omega
    · exact ⟨Nat.le_refl _, h⟩
theorem front_i (E : Nat) (T : List Tok) (s : Ws) (h : s.i < T.length) : s.i < (frontW E T s).2.i ∧ (frontW E T s).2.i ≤ T.length + 12 := by
  unfold frontW
  split
  · show s.i < s.i + 1 ∧ s.i + 1 ≤ _
    omega
  · have h1 := fig_i E T s
    have h2 := clauses_i E T (T.length - (figW E T s).2.i) [] (figW E T s).2 (by omega)
    simp only
    omega
theorem act_i (E : Nat) (T : List Tok) (s : Ws) : s.i < (actW E T s).2.i ∧ (actW E T s).2.i ≤ s.i + 2 := by
  unfold actW
  split
  · show s.i < s.i + 1 ∧ s.i + 1 ≤ _
    omega
  · simp only
    rw [fig_i]
    have : (stepW (if wordW E T wPort s = true then s else wrong E T 8 s)).i = s.i + 1 := by
      unfold stepW
      split
      · rfl
      · simp [wrong_i]
    omega
/-- A line takes a token at least, and goes no further than so many behind the last one. -/
theorem row_i (E : Nat) (T : List Tok) (s : Ws) (h : s.i < T.length) : s.i < (rowW E T s).2.i ∧ (rowW E T s).2.i ≤ T.length + 15 := by
  unfold rowW
  simp only
  have h1 := front_i E T s h
  have h2 := kind_i E T 6 (frontW E T s).2
  have h3 := act_i E T (kindW E T 6 (frontW E T s).2).2
  have h4 : (endW E T (actW E T (kindW E T 6 (frontW E T s).2).2).2).i = (actW E T (kindW E T 6 (frontW E T s).2).2).2.i := by
    unfold endW
    split
    · exact wrong_i E T 8 _
    · rfl
  omega
/-- The numbers, one behind the other. -/
def dotsA (E : Nat) (T : List Tok) : Nat → List Fig × Ws → List Fig × Ws
  | 0, x => x
  | n + 1, x => ((dotsA E T n x).1 ++ [(figW E T (kindW E T 3 (dotsA E T n x).2).2).1], (figW E T (kindW E T 3 (dotsA E T n x).2).2).2)
theorem dotsA_left (E : Nat) (T : List Tok) : ∀ (n : Nat) (l : List Fig) (s : Ws), dotsA E T (n + 1) (l, s) = dotsA E T n (l ++ [(figW E T (kindW E T 3 s).2).1], (figW E T (kindW E T 3 s).2).2)
  | 0, l, s => rfl
  | n + 1, l, s => by
    rw [dotsA, dotsA_left E T n l s]
    rfl
theorem dots_A (E : Nat) (T : List Tok) : ∀ (n : Nat) (l : List Fig) (s : Ws), dotsA E T n (l, s) = (l ++ (dotsW E T n s).1, (dotsW E T n s).2)
  | 0, l, s => by simp [dotsA, dotsW]
  | n + 1, l, s => by
    rw [dotsA_left, dots_A E T n, dotsW]
    simp
end Go.Proofs.YtfamnloobmdhdaaDoor
namespace Go.Proofs.YtfamnloobmdhdaaDoor
open Go Go.RowKit
set_option maxRecDepth 20000

theorem parseP_zero7 {S : List UInt8} (h : (parseP S).2.1 = 0) : parseT S = .ok (parseP S).1 := by
  unfold parseP at h ⊢
  cases hx : parseT S with
  | ok l => rfl
  | error x =>
    rw [hx] at h
    exfalso
    have h' : x.1 = 0 := h
    unfold parseT at hx
    by_cases h4 : 4096 < S.length
    · rw [if_pos h4] at hx; cases hx; exact absurd h' (by decide)
    · rw [if_neg h4] at hx
      cases hl : lexW 0 S with
      | error y =>
        rw [hl] at hx
        cases hx
        obtain ⟨e, p⟩ := x
        have := lexW_error S 0 e p hl
        have h2 : e = 0 := h'
        omega
      | ok T =>
        rw [hl] at hx
        have hx' : takeL S.length (T.length + 1) [] T = .error x := hx
        have := does_rows S.length T (T.length + 1) [] ⟨0, 0, 0⟩ rfl
        rw [show T.drop (Ws.mk 0 0 0).i = T from rfl, hx'] at this
        exact this.2.2 h'
set_option maxHeartbeats 1000000 in
theorem says_any (l : List Ent) (vl : Value) (w : World) (hl : EntsAt w vl l) (h32 : ∀ x ∈ l, ent32 x) (L : List Int) (hL : Byt L) (hP : Places w) :
    Calls Tryd.prog 19 #[vl, .agg (hv L)] w fun e w' => e = .returned (.tuple #[.int .i64 (saysT (applyT L) l).1, .bool (saysT (applyT L) l).2]) ∧ Below w.heap.size w w' := by
  have hLl := hL.1
  have hp := hP.pos
  have WC : Hid (∀ W, Below w.heap.size w W → Calls Tryd.prog 18 #[vl, .agg (hv L)] W fun e w' => e = .returned (.int .i64 (whichI (applyT L) l)) ∧ Below W.heap.size W w') := fun W hb => which_any l vl W (GSl.below hl hb) h32 L hL (hP.later hp hb)
  obtain ⟨o, cap, rfl, hc1, hc2⟩ := GSl.slice hl
  obtain ⟨n, hn⟩ : ∃ n, n = l.length := ⟨_, rfl⟩
  rw [← hn] at hl hc1 WC ⊢
  have HL : Hid (EntsAt w (.slice o n cap) l) := hl
  unfold maxLen at hc2
  have KN : Hid ((w.alloc (.cells (hv L) 37)).heap[w.heap.size]? = some (.cells (hv L) 37 (0, 0)) ∧ Below w.heap.size w (w.alloc (.cells (hv L) 37))) := ⟨heap_new _ _ _ rfl, (Below.refl _ _).alloc (Nat.le_refl _) _⟩
  cases hw : whichT (applyT L) l with
  | none =>
    have e1 : whichI (applyT L) l = -1 := by unfold whichI; rw [hw]; rfl
    have e2 : saysT (applyT L) l = (0, false) := by unfold saysT; rw [hw]
    rw [e2]
    rw [e1] at WC
    clear hl h32 hP hp hw e1 e2 hn
    go_enter Tryd.func19, Tryd.ntmps19
    go_wp2_with (refine wl_load26 rfl _ rfl w.heap.size rfl L KN.out.1 hLl ?_)
    refine (WC.out _ KN.out.2).mono ?_
    rintro e w1 ⟨rfl, hb1⟩
    have B1 : Hid (Below w.heap.size w w1) := KN.out.2.trans (hb1.mono KN.out.2.size)
    clear hb1
    go_wp2_with fail
    go_ret2
    exact ⟨rfl, B1.out⟩
  | some i =>
    obtain ⟨x, hx⟩ := whichT_in hw
    have hi : i < n := by rw [hn]; exact (List.getElem?_eq_some_iff.1 hx).1
    have e1 : whichI (applyT L) l = (i : Int) := by unfold whichI; rw [hw]; rfl
    have e2 : saysT (applyT L) l = (x.action, true) := by unfold saysT; rw [hw]; simp only [List.getD_eq_getElem?_getD, hx]; rfl
    rw [e2]
    rw [e1] at WC
    obtain ⟨g, off, cur, ty, fr, x', rfl, hg, hc, hxi⟩ := hl.at i hi
    obtain rfl : x = x' := Option.some.inj (hx.symm.trans hxi)
    have HG : Hid (w.heap[g]? = some (.cells cur ty fr)) := hg
    have HC : Hid (cur[off + i * 12 + 11]? = some (.int .i64 x.action)) := ent_act hc
    have hi0 : ¬ (i : Int) < 0 := by omega
    have hi1 : (i : Int) < (n : Int) := by omega
    clear hl h32 hP hp hw e1 e2 hx hxi hg hc hn
    go_enter Tryd.func19, Tryd.ntmps19
    go_wp2_with (refine wl_load26 rfl _ rfl w.heap.size rfl L KN.out.1 hLl ?_)
    refine (WC.out _ KN.out.2).mono ?_
    rintro e w1 ⟨rfl, hb1⟩
    have B1 : Hid (Below w.heap.size w w1) := KN.out.2.trans (hb1.mono KN.out.2.size)
    have q : w1.cell? ⟨g, off + i * 12 + 11, none⟩ = some (.int .i64 x.action) := by rw [cell_of_row _ _ _ _ _ _ ((B1.out.block g (Array.getElem?_eq_some_iff.1 HG.out).1).trans HG.out)]; exact HC.out
    clear hb1
    go_wp2_with fail
    go_ret2
    exact ⟨rfl, B1.out⟩

/-- What a text comes to. -/
def readP (S : List UInt8) : List Ent × Int × Int := outC (readT S)
theorem readP_bad {S : List UInt8} (h : (parseP S).2.1 ≠ 0) : readP S = ([], ((parseP S).2.1 : Int), ((parseP S).2.2 : Int)) := by
  unfold readP readT
  unfold parseP at h ⊢
  cases hp : parseT S with
  | ok l => rw [hp] at h; exact absurd rfl h
  | error x => rfl
theorem readP_good {S : List UInt8} (h : (parseP S).2.1 = 0) : readP S = checkP (S.length : Int) (parseP S).1 := by
  have := parseP_zero7 h
  unfold readP readT checkP
  rw [this]
theorem raws_sl7 {B : Nat} {w : World} {L : List Raw} {v : Value} (h : RawsOwn B w L v) : RawsAt w v L := by
  obtain ⟨P, h1, h2, h3⟩ := h
  refine ⟨P, h1, gsl_of (E := RawE) h2 fun c _ => rfl, fun p hp => ?_⟩
  obtain ⟨Q, q1, q2, q3⟩ := h3 p hp
  exact ⟨Q, q1, gsl_of (E := ClaE) q2 fun c _ => rfl, fun r hr => gsl_of (E := FigE) (q3 r hr) fun c _ => rfl⟩

set_option maxHeartbeats 4000000 in
theorem read_any (s : ByteArray) (hs : s.size ≤ maxLen) (w : World) :
    Calls Tryd.prog 10 #[.string s] w fun e w' => ∃ v, e = .returned (.tuple #[v, .int .i64 (readP s.data.toList).2.1, .int .i64 (readP s.data.toList).2.2]) ∧ EntsOwn w.heap.size w' (readP s.data.toList).1 v ∧ Below w.heap.size w w' := by
  have C1 : Hid (∀ W, Calls Tryd.prog 23 #[.string s] W fun e w' => ∃ v, e = .returned (.tuple #[v, .int .i64 ((parseP s.data.toList).2.1 : Nat), .int .i64 ((parseP s.data.toList).2.2 : Nat)]) ∧ RawsOwn W.heap.size w' (parseP s.data.toList).1 v ∧ Below W.heap.size W w') := parse_any s hs
  have hlen : (s.data.toList.length : Int) = (s.size : Int) := by rw [← Lib.size_eq]
  have hz : (parseP s.data.toList).2.1 = 0 → readP s.data.toList = checkP (s.size : Int) (parseP s.data.toList).1 := fun h => by rw [readP_good h, hlen]
  have hb := @readP_bad s.data.toList
  obtain ⟨S, hS⟩ : ∃ S, S = s.data.toList := ⟨_, rfl⟩
  rw [← hS] at C1 hz hb ⊢
  have CK : Hid (∀ (l : List Raw) vl W, RawsAt W vl l → Calls Tryd.prog 14 #[vl, .int .i64 (s.size : Int)] W fun e w' => ∃ v, e = .returned (.tuple #[v, .int .i64 (checkP (s.size : Int) l).2.1, .int .i64 (checkP (s.size : Int) l).2.2]) ∧ EntsOwn W.heap.size w' (checkP (s.size : Int) l).1 v ∧ Below W.heap.size W w') := fun l vl W h => check_any l vl _ W h
  obtain ⟨⟨R, E, A⟩, hP⟩ : ∃ x, x = parseP S := ⟨_, rfl⟩
  rw [← hP] at C1 hz hb
  simp only at C1 hz hb
  obtain ⟨X, hX⟩ : ∃ X, X = readP S := ⟨_, rfl⟩
  rw [← hX] at hz hb ⊢
  unfold maxLen at hs
  clear hS hP hX hlen
  by_cases hE : E = 0
  · subst hE
    obtain rfl := hz rfl
    clear hz hb
    go_enter Tryd.func10, Tryd.ntmps10
    go_wp2_with fail
    refine (C1.out _).mono ?_
    rintro e w1 ⟨v, rfl, ho1, hb1⟩
    have HR : Hid (RawsAt w1 v R) := raws_sl7 ho1
    have HB : Hid (Below w.heap.size w w1) := hb1
    clear ho1 hb1
    go_wp2_with fail
    refine (CK.out _ _ _ HR.out).mono ?_
    rintro e w2 ⟨v2, rfl, ho2, hb2⟩
    have HO : Hid (EntsOwn w.heap.size w2 (checkP (s.size : Int) R).1 v2) := gown_base ho2 HB.out.size
    have HB2 : Hid (Below w.heap.size w w2) := HB.out.trans (hb2.mono HB.out.size)
    clear ho2 hb2
    go_wp2_with fail
    go_ret3
    exact ⟨_, rfl, HO.out, HB2.out⟩
  · obtain rfl := hb hE
    have hne : ((E : Int) != 0) = true := by simp; omega
    clear hz hb hE
    go_enter Tryd.func10, Tryd.ntmps10
    go_wp2_with fail
    refine (C1.out _).mono ?_
    rintro e w1 ⟨v, rfl, ho1, hb1⟩
    have HB : Hid (Below w.heap.size w w1) := hb1
    clear ho1 hb1
    go_wp2_with fail
    go_ret3
    exact ⟨_, rfl, World.ownsRow_nil _ _ _ _, HB.out⟩

def ex7A : List UInt8 := [57, 32, 100, 112, 111, 114, 116, 32, 56, 48, 32, 45, 62, 32, 112, 111, 114, 116, 32, 49, 10, 57, 32, 115, 114, 99, 32, 49, 48, 46, 48, 46, 48, 46, 48, 47, 56, 32, 45, 62, 32, 112, 111, 114, 116, 32, 50, 10, 100, 101, 102, 97, 117, 108, 116, 32, 45, 62, 32, 100, 114, 111, 112]
def ex7B : List UInt8 := [49, 32, 115, 114, 99, 32, 49, 46, 50, 46, 51, 46, 50, 53, 54, 32, 45, 62, 32, 100, 114, 111, 112]
def ex7E : List Ent := [⟨false, 9, 1, 0, 0, 0, 0, 0, 65535, 80, 80, -1⟩, ⟨false, 9, 2, 167772160, 8, 0, 0, 0, 65535, 0, 65535, -1⟩, ⟨true, 0, 0, 0, 0, 0, 0, 0, 0, 0, 0, 0⟩]
def ex7H : List Int := [10, 0, 0, 1, 0, 0, 0, 0, 0, 0, 0, 80, 0]
def ex7K : List Int := [10, 0, 0, 1, 0, 0, 0, 0, 0, 0, 0, 81, 0]
theorem ex7_read : readP ex7A = (ex7E, 0, 0) := by kernel_rfl
theorem ex7_bad : readP ex7B = ([], 10, 12) := by kernel_rfl
theorem ex7_one : saysT (applyT ex7H) ex7E = (1, true) := by kernel_rfl
theorem ex7_two : saysT (applyT ex7K) ex7E = (2, true) := by kernel_rfl
theorem ex7H_byt : Byt ex7H := ⟨rfl, fun k => by
  rcases Nat.lt_or_ge k 13 with h | h
  · rcases (show k = 0 ∨ k = 1 ∨ k = 2 ∨ k = 3 ∨ k = 4 ∨ k = 5 ∨ k = 6 ∨ k = 7 ∨ k = 8 ∨ k = 9 ∨ k = 10 ∨ k = 11 ∨ k = 12 by omega) with h | h | h | h | h | h | h | h | h | h | h | h | h <;> subst h <;> decide
  · rw [List.getD_eq_getElem?_getD, List.getElem?_eq_none h]; decide⟩
theorem ex7K_byt : Byt ex7K := ⟨rfl, fun k => by
  rcases Nat.lt_or_ge k 13 with h | h
  · rcases (show k = 0 ∨ k = 1 ∨ k = 2 ∨ k = 3 ∨ k = 4 ∨ k = 5 ∨ k = 6 ∨ k = 7 ∨ k = 8 ∨ k = 9 ∨ k = 10 ∨ k = 11 ∨ k = 12 by omega) with h | h | h | h | h | h | h | h | h | h | h | h | h <;> subst h <;> decide
  · rw [List.getD_eq_getElem?_getD, List.getElem?_eq_none h]; decide⟩
theorem ex7_32 : ∀ x ∈ ex7E, ent32 x := fun x hx => by
  simp only [ex7E, List.mem_cons, List.not_mem_nil, or_false] at hx
  rcases hx with rfl | rfl | rfl <;> exact ⟨⟨by decide, by decide⟩, ⟨by decide, by decide⟩⟩

set_option maxHeartbeats 8000000 in
set_option maxRecDepth 100000 in
theorem awake7_any (w : World) (hP : Places w) : Calls Tryd.prog 9 #[] w fun e w' => e = .returned (.bool true) ∧ Below w.heap.size w w' := by
  have hp := hP.pos
  have C1 : Hid (∀ W, Calls Tryd.prog 10 #[.string ⟨#[57, 32, 100, 112, 111, 114, 116, 32, 56, 48, 32, 45, 62, 32, 112, 111, 114, 116, 32, 49, 10, 57, 32, 115, 114, 99, 32, 49, 48, 46, 48, 46, 48, 46, 48, 47, 56, 32, 45, 62, 32, 112, 111, 114, 116, 32, 50, 10, 100, 101, 102, 97, 117, 108, 116, 32, 45, 62, 32, 100, 114, 111, 112]⟩] W fun e w' => ∃ v, e = .returned (.tuple #[v, .int .i64 0, .int .i64 0]) ∧ EntsOwn W.heap.size w' ex7E v ∧ Below W.heap.size W w') := fun W => by
    have := read_any ⟨#[57, 32, 100, 112, 111, 114, 116, 32, 56, 48, 32, 45, 62, 32, 112, 111, 114, 116, 32, 49, 10, 57, 32, 115, 114, 99, 32, 49, 48, 46, 48, 46, 48, 46, 48, 47, 56, 32, 45, 62, 32, 112, 111, 114, 116, 32, 50, 10, 100, 101, 102, 97, 117, 108, 116, 32, 45, 62, 32, 100, 114, 111, 112]⟩ (by decide) W
    rw [show (⟨#[57, 32, 100, 112, 111, 114, 116, 32, 56, 48, 32, 45, 62, 32, 112, 111, 114, 116, 32, 49, 10, 57, 32, 115, 114, 99, 32, 49, 48, 46, 48, 46, 48, 46, 48, 47, 56, 32, 45, 62, 32, 112, 111, 114, 116, 32, 50, 10, 100, 101, 102, 97, 117, 108, 116, 32, 45, 62, 32, 100, 114, 111, 112]⟩ : ByteArray).data.toList = ex7A from rfl, ex7_read] at this
    exact this
  have C2 : Hid (∀ W, Calls Tryd.prog 10 #[.string ⟨#[49, 32, 115, 114, 99, 32, 49, 46, 50, 46, 51, 46, 50, 53, 54, 32, 45, 62, 32, 100, 114, 111, 112]⟩] W fun e w' => ∃ v, e = .returned (.tuple #[v, .int .i64 10, .int .i64 12]) ∧ EntsOwn W.heap.size w' [] v ∧ Below W.heap.size W w') := fun W => by
    have := read_any ⟨#[49, 32, 115, 114, 99, 32, 49, 46, 50, 46, 51, 46, 50, 53, 54, 32, 45, 62, 32, 100, 114, 111, 112]⟩ (by decide) W
    rw [show (⟨#[49, 32, 115, 114, 99, 32, 49, 46, 50, 46, 51, 46, 50, 53, 54, 32, 45, 62, 32, 100, 114, 111, 112]⟩ : ByteArray).data.toList = ex7B from rfl, ex7_bad] at this
    exact this
  have S1 : Hid (∀ W v, EntsAt W v ex7E → Below w.heap.size w W → Calls Tryd.prog 19 #[v, .agg #[.int .u8 10, .int .u8 0, .int .u8 0, .int .u8 1, .int .u8 0, .int .u8 0, .int .u8 0, .int .u8 0, .int .u8 0, .int .u8 0, .int .u8 0, .int .u8 80, .int .u8 0]] W fun e w' => e = .returned (.tuple #[.int .i64 1, .bool true]) ∧ Below W.heap.size W w') := fun W v h hb => by
    have := says_any ex7E v W h ex7_32 ex7H ex7H_byt (hP.later hp hb)
    rw [ex7_one] at this
    exact this
  have S2 : Hid (∀ W v, EntsAt W v ex7E → Below w.heap.size w W → Calls Tryd.prog 19 #[v, .agg #[.int .u8 10, .int .u8 0, .int .u8 0, .int .u8 1, .int .u8 0, .int .u8 0, .int .u8 0, .int .u8 0, .int .u8 0, .int .u8 0, .int .u8 0, .int .u8 81, .int .u8 0]] W fun e w' => e = .returned (.tuple #[.int .i64 2, .bool true]) ∧ Below W.heap.size W w') := fun W v h hb => by
    have := says_any ex7E v W h ex7_32 ex7K ex7K_byt (hP.later hp hb)
    rw [ex7_two] at this
    exact this
  clear hP hp
  go_enter Tryd.func9, Tryd.ntmps9
  go_wp2_with fail
  refine (C1.out _).mono ?_
  rintro e w1 ⟨v, rfl, ho1, hb1⟩
  have HE1 : Hid (EntsAt w1 v ex7E) := ents_sl ho1
  have HB1 : Hid (Below w.heap.size w w1) := hb1
  clear ho1 hb1
  go_wp2_with fail
  refine (S1.out _ _ HE1.out HB1.out).mono ?_
  rintro e w2 ⟨rfl, hb2⟩
  have HE2 : Hid (EntsAt w2 v ex7E) := GSl.below HE1.out hb2
  have HB2 : Hid (Below w.heap.size w w2) := HB1.out.trans (hb2.mono HB1.out.size)
  clear hb2
  go_wp2_with fail
  refine (S2.out _ _ HE2.out HB2.out).mono ?_
  rintro e w3 ⟨rfl, hb3⟩
  have HB3 : Hid (Below w.heap.size w w3) := HB2.out.trans (hb3.mono HB2.out.size)
  clear hb3
  go_wp2_with fail
  refine (C2.out _).mono ?_
  rintro e w4 ⟨v4, rfl, -, hb4⟩
  have HB4 : Hid (Below w.heap.size w w4) := HB3.out.trans (hb4.mono HB3.out.size)
  clear hb4
  go_wp2_with fail
  go_ret
  exact ⟨rfl, HB4.out⟩
end Go.Proofs.YtfamnloobmdhdaaDoor
namespace Go.Proofs.YtfamnloobmdhdaaDoor
open Go.ChangeShapes Go.WideShapes Go.ChangeAt Go.WideMaps Go.WideElems Go.RowKit
set_option maxRecDepth 20000

theorem pairs_of {H : Type} {enc : TypeId × Value → H} {W : World} {base : Nat} {spare : Nat → Bool} {held : Bool} {fuel n : Nat} {t s : TypeId} {f0 f1 : Field} {cs : List Value} {zs : List (Int × Int)} {ps : List MemPlace}
    (ht : Tryd.prog.underlying t = some (.array n s)) (hs : Tryd.prog.underlying s = some (.struct #[f0, f1])) (c2 : Tryd.prog.cellsOf s = 2) (e0 : f0.type = 3) (e1 : f1.type = 3) (o0 : f0.offset = 0) (o1 : f1.offset = 1)
    (h : DataW.trod enc Tryd.prog W base spare held fuel t cs = some (.agg (zs.map fun z => .agg [.lit (.int .i64 z.1), .lit (.int .i64 z.2)]), ps)) (i : Nat) (hi : i < n) :
    ∃ z, zs[i]? = some z ∧ cs[2 * i]? = some (.int .i64 z.1) ∧ cs[2 * i + 1]? = some (.int .i64 z.2) := by
  have c3 : Tryd.prog.cellsOf 3 = 1 := by kernel_rfl
  obtain ⟨xs, m, rfl, hx, hlen, hn, hel⟩ := DataW.trod_array ht h
  have hi' : i < xs.length := by omega
  have h1 := hel i hi
  rw [List.getElem?_eq_getElem hi', c2] at h1
  obtain ⟨y0, y1, k, hy, _, t0, t1⟩ := trod_struct2 hs h1
  rw [e0, c3, o0] at t0
  rw [e1, c3, o1] at t1
  obtain ⟨a, ca, rfl, _⟩ := DataW.trod_int Tryd.underlying3 t0
  obtain ⟨b, cb, rfl, _⟩ := DataW.trod_int Tryd.underlying3 t1
  simp only [Prod.mk.injEq, DataW.agg.injEq] at hx
  have hm : (zs.map fun z => (DataW.agg [.lit (.int .i64 z.1), .lit (.int .i64 z.2)] : DataW H))[i]? = (xs.map (·.1))[i]? := by rw [hx.1]
  rw [List.getElem?_map, List.getElem?_map, List.getElem?_eq_getElem hi', hy] at hm
  simp only [Option.map_some, Option.map_eq_some_iff, DataW.agg.injEq, List.cons.injEq, DataW.lit.injEq, Lit.int.injEq, true_and, and_true] at hm
  obtain ⟨z, hz, za, zb⟩ := hm
  have ga : cs[2 * i]? = some (.int .i64 a) := by
    have := congrArg (·[0]?) ca
    simpa [List.getElem?_take, List.getElem?_drop, Nat.mul_comm] using this
  have gb : cs[2 * i + 1]? = some (.int .i64 b) := by
    have := congrArg (·[0]?) cb
    simpa [List.getElem?_take, List.getElem?_drop, Nat.mul_comm] using this
  exact ⟨z, hz, by rw [za]; exact ga, by rw [zb]; exact gb⟩

abbrev laid1 : List (String × DataW Unit) := [("milepost/head.places", Rows.laid_milepost_head_places)]
theorem of_laid1 {W : World} (h : laidMetH Tryd.prog laid1 W) : Places W := by
  rw [MakeChecks.laidMetH_plain _ _ _ (by kernel_rfl)] at h
  obtain ⟨ps, ⟨g3, t3, cs3, f3, p3, q3, hg3, ht3, hv3, hd3, _, _⟩, _, _⟩ := h
  obtain rfl := Option.some.inj ((show Tryd.prog.globalNamed "milepost/head.places" = some 0 by kernel_rfl).symm.trans hg3)
  obtain rfl := Option.some.inj ((show (Tryd.prog.globals[0]?).map (·.type) = some 150 by kernel_rfl).symm.trans ht3)
  intro k hk
  rw [World.var?_cell hg3 hv3 k]
  obtain ⟨z, hz, h0, h1⟩ := pairs_of (zs := [(0, 32), (32, 32), (64, 16), (80, 16), (96, 8)]) Tryd.underlying150 Tryd.underlying149 (by kernel_rfl) rfl rfl rfl rfl hd3 (k / 2) (by omega)
  rw [← Array.getElem?_toList]
  rcases (show k = 0 ∨ k = 1 ∨ k = 2 ∨ k = 3 ∨ k = 4 ∨ k = 5 ∨ k = 6 ∨ k = 7 ∨ k = 8 ∨ k = 9 by omega) with h | h | h | h | h | h | h | h | h | h <;> subst h <;> simp at hz <;> subst hz <;> first | exact h0 | exact h1
end Go.Proofs.YtfamnloobmdhdaaDoor
