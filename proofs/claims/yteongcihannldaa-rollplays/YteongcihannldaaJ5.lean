import Derived.Test.YteongcihannldaaJ4
import Derived.Test.YteongcihannldaaJ1
import Derived.Laws.AppendOwn
import Derived.Laws.OwnMore
import Derived.Laws.AppendOwnNone
import Derived.Maps.AppendAt
import Derived.OwnWalk
import Derived.Lib.Hide
namespace Go.Proofs.Yteongcihannldaa
open Go Go.RowKit
set_option maxRecDepth 20000

/-! The roll made by the caller; X: blocks of others that stay. -/
def KpY (X : Nat → Prop) (w w' : World) : Prop := ∀ k, X k → w'.heap[k]? = w.heap[k]?
def OwnX (w0 w : World) (g : Nat) (R : RollM) (N : Nat) (X : Nat → Prop) : Prop := RollIn R ∧ Below w0.heap.size w0 w ∧ ∃ v C, RollV w0.heap.size w g v C R N ∧ ∀ k, X k → k < w.heap.size ∧ ¬ footR g v C k
theorem OwnX.of {w0 w : World} {g : Nat} {R : RollM} {N : Nat} (h : OwnR w0 w g R N) : OwnX w0 w g R N (fun _ => False) := by
  obtain ⟨h1, h2, v, C, h3⟩ := h
  exact ⟨h1, h2, v, C, h3, fun k e => e.elim⟩
theorem OwnX.to {w0 w : World} {g : Nat} {R : RollM} {N : Nat} {X : Nat → Prop} (h : OwnX w0 w g R N X) : OwnR w0 w g R N := by
  obtain ⟨h1, h2, v, C, h3, _⟩ := h
  exact ⟨h1, h2, v, C, h3⟩
theorem OwnX.bel {w0 w : World} {g : Nat} {R : RollM} {N : Nat} {X : Nat → Prop} (h : OwnX w0 w g R N X) : Below w0.heap.size w0 w := h.2.1
theorem OwnX.isIn {w0 w : World} {g : Nat} {R : RollM} {N : Nat} {X : Nat → Prop} (h : OwnX w0 w g R N X) : RollIn R := h.1
theorem OwnX.less {w0 w : World} {g : Nat} {R : RollM} {N : Nat} {X Y : Nat → Prop} (h : OwnX w0 w g R N X) (hY : ∀ k, Y k → X k) : OwnX w0 w g R N Y := by
  obtain ⟨h1, h2, v, C, h3, h4⟩ := h
  exact ⟨h1, h2, v, C, h3, fun k e => h4 k (hY k e)⟩
theorem OwnX.grow {w0 w w' : World} {g : Nat} {R : RollM} {N : Nat} {X : Nat → Prop} (h : OwnX w0 w g R N X) (hb : Below w.heap.size w w') : OwnX w0 w' g R N X ∧ KpY X w w' := by
  obtain ⟨h1, h2, v, C, h3, h4⟩ := h
  exact ⟨⟨h1, h2.trans (hb.mono h2.size), v, C, h3.below hb, fun k e => ⟨Nat.lt_of_lt_of_le (h4 k e).1 hb.size, (h4 k e).2⟩⟩, fun k e => hb.block k (h4 k e).1⟩
/-- A new block of others. -/
theorem OwnX.block {w0 w : World} {g : Nat} {R : RollM} {N : Nat} {X : Nat → Prop} (h : OwnX w0 w g R N X) (ob : Obj) : OwnX w0 (w.alloc ob) g R N (fun k => X k ∨ k = w.heap.size) := by
  obtain ⟨h1, h2, v, C, h3, h4⟩ := h
  have hb : Below w.heap.size w (w.alloc ob) := (Below.refl _ _).alloc (Nat.le_refl _) _
  refine ⟨h1, h2.trans (hb.mono h2.size), v, C, h3.below hb, fun k e => ?_⟩
  rcases e with e | e
  · exact ⟨Nat.lt_of_lt_of_le (h4 k e).1 hb.size, (h4 k e).2⟩
  · subst e
    exact ⟨by simp, fun e' => by have := (h3.foot_in _ e').2; omega⟩
/-- What others do to blocks that aren't its own. -/
theorem OwnX.others {w0 w w' : World} {g : Nat} {R : RollM} {N : Nat} {X F F' : Nat → Prop} (h : OwnX w0 w g R N X) (hF : Frm F F' w w') (hX : ∀ k, F k → X k) (hB : ∀ k, F k → w0.heap.size ≤ k) {Y : Nat → Prop} (hY : ∀ k, Y k → X k ∨ F' k) (hY2 : ∀ k, F' k → k < w'.heap.size) : OwnX w0 w' g R N Y := by
  obtain ⟨h1, h2, v, C, h3, h4⟩ := h
  have hk := hF.kept
  have hn : ∀ k, footR g v C k → ¬ F k := fun k e e' => (h4 k (hX k e')).2 e
  refine ⟨h1, h2.trans (hk.below hB h2.size), v, C, h3.kept hk hn (Nat.le_refl _), fun k e => ?_⟩
  rcases hY k e with e | e
  · exact ⟨Nat.lt_of_lt_of_le (h4 k e).1 hk.size, (h4 k e).2⟩
  · refine ⟨hY2 k e, fun e' => ?_⟩
    rcases hF.foot k e with q | q
    · exact hn k e' q
    · have := (h3.foot_in k e').2; omega
section
variable {w0 w : World} {g : Nat} {R : RollM} {N : Nat} {X : Nat → Prop} (h : OwnX w0 w g R N X)
include h
theorem doesX (hN : N ≤ 100000) (x : ActR) (hx : OkActR x) : Calls Try.prog 15 #[.pointer (some ⟨g, 0, none⟩), .agg (actV21 x)] w fun e w' => e = .returned (.bool (actR R x).2) ∧ OwnX w0 w' g (actR R x).1 (N + 1) X ∧ KpY X w w' := by
  obtain ⟨h1, h2, v, C, h3, h4⟩ := h
  refine (does21_any _ w g v C R N h3 hN x hx).mono ?_
  rintro e w' ⟨rfl, q⟩
  have hb := q.belowW (B0 := w0.heap.size) (fun k e => (h3.foot_in k e).1) h2.size
  obtain ⟨C', q1, q2⟩ := q
  refine ⟨rfl, ⟨act_inR h1 x hx, h2.trans hb, v, C', q1, fun k e => ⟨Nat.lt_of_lt_of_le (h4 k e).1 q2.kept.size, fun e' => ?_⟩⟩, fun k e => q2.kept.block k (h4 k e).1 (h4 k e).2⟩
  rcases q2.foot k e' with p | p
  · exact (h4 k e).2 p
  · have := (h4 k e).1; omega
theorem incX (s : Int) : Calls Try.prog 16 #[.pointer (some ⟨g, 0, none⟩), .int .i64 s] w fun e w' => e = .returned (.int .i64 (incR R s)) ∧ w' = w := incO h.to s
theorem useX (s : Int) : Calls Try.prog 22 #[.pointer (some ⟨g, 0, none⟩), .int .i64 s] w fun e w' => e = .returned (.int .i64 (useR R s)) ∧ w' = w := useO h.to s
theorem haveX (s ep : Int) (he : WfI ep) : Calls Try.prog 20 #[.pointer (some ⟨g, 0, none⟩), .int .i64 s, .int .i64 ep] w fun e w' => e = .returned (.int .i64 (haveR R s ep)) ∧ w' = w := haveO h.to s ep he
theorem inX (s now lost : Int) : Calls Try.prog 18 #[.pointer (some ⟨g, 0, none⟩), .int .i64 s, .int .i64 now, .int .i64 lost] w fun e w' => e = .returned (.bool (inR R s now lost)) ∧ Below w.heap.size w w' := by
  refine (inO h.to s now lost).mono ?_
  rintro e w' ⟨rfl, _, q⟩
  exact ⟨rfl, q⟩
theorem safeX (s ep now lease : Int) (b : Bool) (hb : b = true ↔ SafeR R s ep now lease) : Calls Try.prog 24 #[.pointer (some ⟨g, 0, none⟩), .int .i64 s, .int .i64 ep, .int .i64 now, .int .i64 lease] w fun e w' => e = .returned (.bool b) ∧ Below w.heap.size w w' := by
  refine (safeO h.to s ep now lease b hb).mono ?_
  rintro e w' ⟨rfl, _, q⟩
  exact ⟨rfl, q⟩
end
end Go.Proofs.Yteongcihannldaa
namespace Go.Proofs.Yteongcihannldaa
open Go
set_option maxRecDepth 20000

/-! The reference's roll: all words. -/
structure WdM where
  s : Int
  kind : Int
  ep : Int
  n : Int
structure RfM where
  count : Int
  life : List Int
  words : List WdM
def isF (d : RfM) (s : Int) : Bool := decide (1 ≤ s) && decide (s ≤ d.count)
def lifeF (d : RfM) (s : Int) : Int := d.life.getD s.toNat 0
def addF21 (d : RfM) (x : WdM) : RfM := { d with words := d.words ++ [x] }
def bornF (d : RfM) (s inc : Int) : RfM := { d with life := d.life.set s.toNat inc, words := d.words.filter fun x => x.s != s }
def hearF (d : RfM) (s inc now : Int) : RfM × Bool := if isF d s = true ∧ 1 ≤ inc ∧ lifeF d s ≤ inc then (addF21 (if lifeF d s < inc then bornF d s inc else d) ⟨s, 1, 0, clockR now⟩, true) else (d, false)
def livesF (d : RfM) (s inc : Int) : Bool := isF d s && (inc != 0) && (lifeF d s == inc)
def ackF (d : RfM) (s inc e n : Int) : RfM × Bool := if livesF d s inc = true then (addF21 d ⟨s, 2, e, n⟩, true) else (d, false)
def seenF (d : RfM) (s inc n : Int) : RfM × Bool := if livesF d s inc = true then (addF21 d ⟨s, 3, 0, n⟩, true) else (d, false)
def ledF (d : RfM) (s e now : Int) : RfM := if isF d s = true then addF21 d ⟨s, 4, e, clockR now⟩ else d
def keepB (a b : Int) (x : WdM) : Bool := (x.kind != 2) || (x.ep == a) || (x.ep == b)
def keepF (d : RfM) (a b : Int) : RfM := { d with words := d.words.filter (keepB a b) }
def mostB (s k e : Int) (x : WdM) : Bool := (x.s == s) && (x.kind == k) && (x.ep == e)
def mostS (s k e : Int) (n : Int) (x : WdM) : Int := if mostB s k e x = true ∧ n < x.n then x.n else n
def mostF (l : List WdM) (s k e : Int) : Int := l.foldl (mostS s k e) 0
def lastS (s : Int) (n : Int) (x : WdM) : Int := if x.s = s ∧ x.kind = 1 then x.n else n
def lastF (l : List WdM) (s : Int) : Int := l.foldl (lastS s) 0
def toldS (s e : Int) (o : Option Int) (x : WdM) : Option Int := if mostB s 4 e x = true then laterO o x.n else o
def toldF (l : List WdM) (s e : Int) : Option Int := l.foldl (toldS s e) none
def incF (d : RfM) (s : Int) : Int := if isF d s = true then lifeF d s else 0
def inF (d : RfM) (s now lost : Int) : Bool := isF d s && (lifeF d s != 0) && decide (clockR now - lastF d.words s < lost)
def YoungF (d : RfM) (s ep now lease : Int) : Prop := ∃ x ∈ d.words, x.s = s ∧ x.kind = 4 ∧ x.ep < ep ∧ clockR now - mostF d.words s 4 x.ep < lease
def SafeF (d : RfM) (s ep now lease : Int) : Prop := isF d s = true ∧ (ep ≤ mostF d.words s 3 0 ∨ ¬ YoungF d s ep now lease)
/-- What is not of it doesn't count. -/
theorem fold_skip {α β : Type} (f : β → α → β) (p : α → Bool) (h : ∀ b x, p x = false → f b x = b) : ∀ (l : List α) (b : β), (l.filter p).foldl f b = l.foldl f b
  | [], _ => rfl
  | x :: l, b => by
    rw [List.filter_cons]
    split
    · rw [List.foldl_cons, List.foldl_cons]
      exact fold_skip f p h l _
    · rename_i hp
      rw [List.foldl_cons, h b x (by simpa using hp)]
      exact fold_skip f p h l _
theorem fold_none {α β : Type} (f : β → α → β) : ∀ (l : List α) (b : β), (∀ b, ∀ x ∈ l, f b x = b) → l.foldl f b = b
  | [], _, _ => rfl
  | x :: l, b, h => by
    rw [List.foldl_cons, h b x (by simp)]
    exact fold_none f l b fun b y hy => h b y (by simp [hy])
theorem mostF_add (l : List WdM) (x : WdM) (s k e : Int) : mostF (l ++ [x]) s k e = mostS s k e (mostF l s k e) x := by unfold mostF; rw [List.foldl_append]; rfl
theorem lastF_add (l : List WdM) (x : WdM) (s : Int) : lastF (l ++ [x]) s = lastS s (lastF l s) x := by unfold lastF; rw [List.foldl_append]; rfl
theorem toldF_add (l : List WdM) (x : WdM) (s e : Int) : toldF (l ++ [x]) s e = toldS s e (toldF l s e) x := by unfold toldF; rw [List.foldl_append]; rfl
theorem mostB_ne {s k e : Int} {x : WdM} (h : x.s ≠ s) : mostB s k e x = false := by unfold mostB; simp [h]
theorem mostB_kind {s k e : Int} {x : WdM} (h : x.kind ≠ k) : mostB s k e x = false := by unfold mostB; simp [h]
theorem mostB_ep {s k e : Int} {x : WdM} (h : x.ep ≠ e) : mostB s k e x = false := by unfold mostB; simp [h]
theorem mostS_no {s k e n : Int} {x : WdM} (h : mostB s k e x = false) : mostS s k e n x = n := by unfold mostS; rw [h]; simp
theorem toldS_no {s e : Int} {o : Option Int} {x : WdM} (h : mostB s 4 e x = false) : toldS s e o x = o := by unfold toldS; rw [h]; rfl
theorem mostS_max {s k e n : Int} {x : WdM} (h : mostB s k e x = true) : mostS s k e n x = max n x.n := by unfold mostS; rw [h]; simp only [true_and]; split <;> omega
theorem mostB_self (s k e n : Int) : mostB s k e ⟨s, k, e, n⟩ = true := by unfold mostB; simp
/-- The reference stands for the roll. -/
structure LinkR (d : RfM) (r : RollM) : Prop where
  count : d.count = r.count
  cnt6 : 1 ≤ r.count ∧ r.count ≤ 6
  len : d.life.length = 7
  life : ∀ s, isRl r s = true → lifeF d s = (r.sw s).life
  heard : ∀ s, isRl r s = true → lastF d.words s = (r.sw s).heard
  have_ : ∀ s e, isRl r s = true → mostF d.words s 2 e = (r.sw s).have_ e
  use : ∀ s, isRl r s = true → mostF d.words s 3 0 = (r.sw s).use
  led : ∀ s e, isRl r s = true → toldF d.words s e = (r.sw s).led e
  who : ∀ x ∈ d.words, isRl r x.s = true
  clk : ∀ x ∈ d.words, x.kind = 4 → 0 ≤ x.n
theorem link_is {d : RfM} {r : RollM} (h : LinkR d r) (s : Int) : isF d s = isRl r s := by unfold isF isRl; rw [h.count]
theorem link_lives {d : RfM} {r : RollM} (h : LinkR d r) (s inc : Int) : livesF d s inc = livesR r s inc := by
  unfold livesF livesR
  rw [link_is h]
  cases e : isRl r s with
  | false => rfl
  | true => rw [h.life s e]
theorem told_most : ∀ (l : List WdM) (s e : Int) (o : Option Int) (n : Int), (∀ x ∈ l, x.kind = 4 → 0 ≤ x.n) → n = o.getD 0 → l.foldl (mostS s 4 e) n = (l.foldl (toldS s e) o).getD 0
  | [], _, _, _, _, _, h => h
  | x :: l, s, e, o, n, hc, h => by
    rw [List.foldl_cons, List.foldl_cons]
    refine told_most l s e _ _ (fun y hy => hc y (by simp [hy])) ?_
    cases hb : mostB s 4 e x with
    | false => rw [mostS_no hb, toldS_no hb]; exact h
    | true =>
      rw [mostS_max hb]
      unfold toldS
      rw [if_pos hb]
      have hk : x.kind = 4 := by unfold mostB at hb; simp at hb; exact hb.1.2
      have := hc x (by simp) hk
      cases o with
      | none => rw [h]; show max 0 x.n = x.n; omega
      | some u => rw [h]; rfl
theorem told_some : ∀ (l : List WdM) (s e : Int) (o : Option Int), ((l.foldl (toldS s e) o).isSome = true ↔ o.isSome = true ∨ ∃ x ∈ l, mostB s 4 e x = true)
  | [], _, _, o => by simp
  | x :: l, s, e, o => by
    rw [List.foldl_cons, told_some l s e]
    cases hb : mostB s 4 e x with
    | false =>
      rw [toldS_no hb]
      simp [hb]
    | true =>
      unfold toldS
      rw [if_pos hb]
      have : (laterO o x.n).isSome = true := by cases o <;> rfl
      simp [this, hb]
theorem link_young {d : RfM} {r : RollM} (h : LinkR d r) {s : Int} (hs : isRl r s = true) (ep now lease : Int) : YoungF d s ep now lease ↔ youngS (r.sw s) ep now lease := by
  have hm : ∀ e, mostF d.words s 4 e = (toldF d.words s e).getD 0 := fun e => told_most d.words s e none 0 h.clk rfl
  unfold YoungF youngS
  constructor
  · rintro ⟨x, hx, h1, h2, h3, h4⟩
    have hs1 : (toldF d.words s x.ep).isSome = true := (told_some d.words s x.ep none).2 (.inr ⟨x, hx, by unfold mostB; simp [h1, h2]⟩)
    obtain ⟨t, ht⟩ := Option.isSome_iff_exists.1 hs1
    rw [hm, ht] at h4
    exact ⟨x.ep, t, h3, by rw [← h.led s x.ep hs]; exact ht, h4⟩
  · rintro ⟨e, t, h1, h2, h3⟩
    rw [← h.led s e hs] at h2
    have hs1 : (toldF d.words s e).isSome = true := by rw [h2]; rfl
    rcases (told_some d.words s e none).1 hs1 with q | ⟨x, hx, hb⟩
    · cases q
    · unfold mostB at hb
      simp at hb
      obtain ⟨⟨q1, q2⟩, q3⟩ := hb
      refine ⟨x, hx, q1, q2, by rw [q3]; exact h1, ?_⟩
      rw [hm, q3, h2]
      exact h3
theorem link_safe {d : RfM} {r : RollM} (h : LinkR d r) (s ep now lease : Int) : SafeF d s ep now lease ↔ (isRl r s = true ∧ SafeS (r.sw s) ep now lease) := by
  unfold SafeF SafeS
  rw [link_is h]
  constructor
  · rintro ⟨h1, h2⟩
    rw [h.use s h1, link_young h h1] at h2
    exact ⟨h1, h2⟩
  · rintro ⟨h1, h2⟩
    rw [h.use s h1, link_young h h1]
    exact ⟨h1, h2⟩
theorem link_inc {d : RfM} {r : RollM} (h : LinkR d r) (s : Int) : incF d s = incR r s := by
  unfold incF incR
  rw [link_is h]
  split
  · rename_i e; exact h.life s e
  · rfl
theorem link_in {d : RfM} {r : RollM} (h : LinkR d r) (s now lost : Int) : inF d s now lost = inR r s now lost := by
  unfold inF inR
  rw [link_is h]
  cases e : isRl r s with
  | false => rfl
  | true => rw [h.life s e, h.heard s e]
theorem most_none {d : RfM} {r : RollM} (h : LinkR d r) {s : Int} (hs : isRl r s = false) (k e : Int) : mostF d.words s k e = 0 :=
  fold_none _ _ _ fun b x hx => mostS_no (mostB_ne fun q => by have := h.who x hx; rw [q, hs] at this; cases this)
theorem link_have {d : RfM} {r : RollM} (h : LinkR d r) (s e : Int) : mostF d.words s 2 e = haveR r s e := by
  unfold haveR
  split
  · rename_i q; exact h.have_ s e q
  · rename_i q; exact most_none h (by simpa using q) 2 e
theorem link_use {d : RfM} {r : RollM} (h : LinkR d r) (s : Int) : mostF d.words s 3 0 = useR r s := by
  unfold useR
  split
  · rename_i q; exact h.use s q
  · rename_i q; exact most_none h (by simpa using q) 3 0
/-- One more word. -/
theorem link_add {d : RfM} {r : RollM} (h : LinkR d r) (x : WdM) (hx : isRl r x.s = true) (hc : x.kind = 4 → 0 ≤ x.n) (m : SwM) (h1 : m.life = (r.sw x.s).life) (h2 : lastS x.s (r.sw x.s).heard x = m.heard) (h3 : ∀ e, mostS x.s 2 e ((r.sw x.s).have_ e) x = m.have_ e) (h4 : mostS x.s 3 0 (r.sw x.s).use x = m.use)
    (h5 : ∀ e, toldS x.s e ((r.sw x.s).led e) x = m.led e) : LinkR (addF21 d x) (setR r x.s m) := by
  refine ⟨h.count, h.cnt6, h.len, fun s hs => ?_, fun s hs => ?_, fun s e hs => ?_, fun s hs => ?_, fun s e hs => ?_, fun y hy => ?_, fun y hy => ?_⟩
  · show lifeF d s = _
    by_cases e : s = x.s
    · subst e; rw [set_at, h1]; exact h.life _ hs
    · rw [set_other r _ m e]; exact h.life s hs
  · show lastF (d.words ++ [x]) s = _
    rw [lastF_add, h.heard s hs]
    by_cases e : s = x.s
    · subst e; rw [set_at]; exact h2
    · rw [set_other r _ m e]
      unfold lastS
      rw [if_neg (fun q => e q.1.symm)]
  · show mostF (d.words ++ [x]) s 2 e = _
    rw [mostF_add, h.have_ s e hs]
    by_cases q : s = x.s
    · subst q; rw [set_at]; exact h3 e
    · rw [set_other r _ m q]
      exact mostS_no (mostB_ne fun p => q p.symm)
  · show mostF (d.words ++ [x]) s 3 0 = _
    rw [mostF_add, h.use s hs]
    by_cases q : s = x.s
    · subst q; rw [set_at]; exact h4
    · rw [set_other r _ m q]
      exact mostS_no (mostB_ne fun p => q p.symm)
  · show toldF (d.words ++ [x]) s e = _
    rw [toldF_add, h.led s e hs]
    by_cases q : s = x.s
    · subst q; rw [set_at]; exact h5 e
    · rw [set_other r _ m q]
      exact toldS_no (mostB_ne fun p => q p.symm)
  · rcases List.mem_append.1 hy with q | q
    · exact h.who y q
    · rw [List.mem_singleton] at q; subst q; exact hx
  · rcases List.mem_append.1 hy with q | q
    · exact h.clk y q
    · rw [List.mem_singleton] at q; subst q; exact hc
theorem link_ack {d : RfM} {r : RollM} (h : LinkR d r) (s inc e n : Int) : LinkR (ackF d s inc e n).1 (ackR r s inc e n).1 ∧ (ackF d s inc e n).2 = (ackR r s inc e n).2 := by
  unfold ackF ackR
  rw [link_lives h]
  cases hl : livesR r s inc with
  | false => exact ⟨h, rfl⟩
  | true =>
    have hs : isRl r s = true := by unfold livesR at hl; simp at hl; exact hl.1.1
    refine ⟨link_add h ⟨s, 2, e, n⟩ hs (fun q => absurd q (by dsimp only; decide)) (ackS (r.sw s) e n) rfl ?_ (fun k => ?_) ?_ (fun k => ?_), rfl⟩
    · unfold lastS; rw [if_neg (fun q => absurd q.2 (by dsimp only; decide))]; rfl
    · unfold ackS
      dsimp only
      by_cases q : k = e
      · subst q; rw [if_pos rfl, mostS_max (mostB_self s 2 k n)]
      · rw [if_neg q, mostS_no (mostB_ep fun p => q p.symm)]
    · rw [mostS_no (mostB_kind (by dsimp only; decide))]; rfl
    · rw [toldS_no (mostB_kind (by dsimp only; decide))]; rfl
theorem link_seen {d : RfM} {r : RollM} (h : LinkR d r) (s inc n : Int) : LinkR (seenF d s inc n).1 (seenR r s inc n).1 ∧ (seenF d s inc n).2 = (seenR r s inc n).2 := by
  unfold seenF seenR
  rw [link_lives h]
  cases hl : livesR r s inc with
  | false => exact ⟨h, rfl⟩
  | true =>
    have hs : isRl r s = true := by unfold livesR at hl; simp at hl; exact hl.1.1
    refine ⟨link_add h ⟨s, 3, 0, n⟩ hs (fun q => absurd q (by dsimp only; decide)) (seenS (r.sw s) n) rfl ?_ (fun k => ?_) ?_ (fun k => ?_), rfl⟩
    · unfold lastS; rw [if_neg (fun q => absurd q.2 (by dsimp only; decide))]; rfl
    · rw [mostS_no (mostB_kind (by dsimp only; decide))]; rfl
    · rw [mostS_max (mostB_self s 3 0 n)]; rfl
    · rw [toldS_no (mostB_kind (by dsimp only; decide))]; rfl
theorem link_led {d : RfM} {r : RollM} (h : LinkR d r) (s e now : Int) : LinkR (ledF d s e now) (ledR r s e now) := by
  unfold ledF ledR
  rw [link_is h]
  cases hs : isRl r s with
  | false => exact h
  | true =>
    refine link_add h ⟨s, 4, e, clockR now⟩ hs (fun _ => (clock_in now).1) (ledS (r.sw s) e now) rfl ?_ (fun k => ?_) ?_ (fun k => ?_)
    · unfold lastS; rw [if_neg (fun q => absurd q.2 (by dsimp only; decide))]; rfl
    · rw [mostS_no (mostB_kind (by dsimp only; decide))]; rfl
    · rw [mostS_no (mostB_kind (by dsimp only; decide))]; rfl
    · unfold ledS
      dsimp only
      by_cases q : k = e
      · subst q; rw [if_pos rfl]; unfold toldS; rw [if_pos (mostB_self s 4 k _)]
      · rw [if_neg q, toldS_no (mostB_ep fun p => q p.symm)]
theorem link_keep {d : RfM} {r : RollM} (h : LinkR d r) (a b : Int) : LinkR (keepF d a b) (keepR r a b) := by
  have hk : ∀ x : WdM, keepB a b x = false → x.kind = 2 ∧ x.ep ≠ a ∧ x.ep ≠ b := fun x hx => by unfold keepB at hx; simp at hx; exact ⟨hx.1.1, hx.1.2, hx.2⟩
  refine ⟨h.count, h.cnt6, h.len, h.life, fun s hs => ?_, fun s e hs => ?_, fun s hs => ?_, fun s e hs => ?_, fun x hx => h.who x (List.mem_filter.1 hx).1, fun x hx => h.clk x (List.mem_filter.1 hx).1⟩
  · exact (fold_skip _ _ (fun n x hx => by unfold lastS; rw [if_neg (fun q => by have := (hk x hx).1; omega)]) _ _).trans (h.heard s hs)
  · show mostF (d.words.filter (keepB a b)) s 2 e = if e = a ∨ e = b then (r.sw s).have_ e else 0
    split
    · rename_i q
      refine (fold_skip _ _ (fun n x hx => mostS_no (mostB_ep fun p => ?_)) _ _).trans (h.have_ s e hs)
      have := hk x hx
      rcases q with q | q
      · exact this.2.1 (p.trans q)
      · exact this.2.2 (p.trans q)
    · rename_i q
      refine fold_none _ _ _ fun n x hx => ?_
      obtain ⟨_, hb⟩ := List.mem_filter.1 hx
      cases hm : mostB s 2 e x with
      | false => exact mostS_no hm
      | true =>
        unfold mostB at hm
        unfold keepB at hb
        simp at hm hb
        rcases hb with (p | p) | p
        · exact absurd hm.1.2 p
        · exact absurd (.inl (hm.2.symm.trans p)) q
        · exact absurd (.inr (hm.2.symm.trans p)) q
  · exact (fold_skip _ _ (fun n x hx => mostS_no (mostB_kind fun p => by have := (hk x hx).1; omega)) _ _).trans (h.use s hs)
  · exact (fold_skip _ _ (fun n x hx => toldS_no (mostB_kind fun p => by have := (hk x hx).1; omega)) _ _).trans (h.led s e hs)
theorem link_born {d : RfM} {r : RollM} (h : LinkR d r) (s inc : Int) (hs : isRl r s = true) : LinkR (bornF d s inc) (setR r s { sw0 with life := inc }) := by
  have hi : 1 ≤ s ∧ s ≤ 6 := by unfold isRl at hs; simp at hs; have := h.cnt6; omega
  have hne : ∀ x : WdM, (x.s != s) = false → x.s = s := fun x hx => by simpa using hx
  have hgone : ∀ x ∈ d.words.filter (fun x => x.s != s), x.s ≠ s := fun x hx => by simpa using (List.mem_filter.1 hx).2
  refine ⟨h.count, h.cnt6, by show (d.life.set _ _).length = 7; rw [List.length_set]; exact h.len, fun k hk => ?_, fun k hk => ?_, fun k e hk => ?_, fun k hk => ?_, fun k e hk => ?_, fun x hx => h.who x (List.mem_filter.1 hx).1, fun x hx => h.clk x (List.mem_filter.1 hx).1⟩
  · have hk1 : 1 ≤ k ∧ k ≤ 6 := by have hk' : isRl r k = true := hk; unfold isRl at hk'; simp at hk'; have := h.cnt6; omega
    show (d.life.set s.toNat inc).getD k.toNat 0 = _
    by_cases e : k = s
    · subst e
      rw [set_at, List.getD_eq_getElem?_getD, List.getElem?_set_self (by rw [h.len]; omega)]; rfl
    · rw [set_other r s _ e, List.getD_eq_getElem?_getD, List.getElem?_set_ne (by omega), ← List.getD_eq_getElem?_getD]
      exact h.life k hk
  · show lastF (d.words.filter fun x => x.s != s) k = _
    by_cases e : k = s
    · subst e; rw [set_at]
      exact fold_none _ _ _ fun n x hx => by unfold lastS; rw [if_neg (fun q => hgone x hx q.1)]
    · rw [set_other r s _ e]
      exact (fold_skip _ _ (fun n x hx => by unfold lastS; rw [if_neg (fun q => e (by rw [← q.1]; exact hne x hx))]) _ _).trans (h.heard k hk)
  · show mostF (d.words.filter fun x => x.s != s) k 2 e = _
    by_cases q : k = s
    · subst q; rw [set_at]
      exact fold_none _ _ _ fun n x hx => mostS_no (mostB_ne (hgone x hx))
    · rw [set_other r s _ q]
      exact (fold_skip _ _ (fun n x hx => mostS_no (mostB_ne fun p => q (by rw [← p]; exact hne x hx))) _ _).trans (h.have_ k e hk)
  · show mostF (d.words.filter fun x => x.s != s) k 3 0 = _
    by_cases q : k = s
    · subst q; rw [set_at]
      exact fold_none _ _ _ fun n x hx => mostS_no (mostB_ne (hgone x hx))
    · rw [set_other r s _ q]
      exact (fold_skip _ _ (fun n x hx => mostS_no (mostB_ne fun p => q (by rw [← p]; exact hne x hx))) _ _).trans (h.use k hk)
  · show toldF (d.words.filter fun x => x.s != s) k e = _
    by_cases q : k = s
    · subst q; rw [set_at]
      exact fold_none _ _ _ fun n x hx => toldS_no (mostB_ne (hgone x hx))
    · rw [set_other r s _ q]
      exact (fold_skip _ _ (fun n x hx => toldS_no (mostB_ne fun p => q (by rw [← p]; exact hne x hx))) _ _).trans (h.led k e hk)
theorem link_heard {d : RfM} {r : RollM} (h : LinkR d r) (s now : Int) (hs : isRl r s = true) : LinkR (addF21 d ⟨s, 1, 0, clockR now⟩) (setR r s { r.sw s with heard := clockR now }) := by
  refine link_add h ⟨s, 1, 0, clockR now⟩ hs (fun q => absurd q (by dsimp only; decide)) _ rfl ?_ (fun k => ?_) ?_ (fun k => ?_)
  · unfold lastS; rw [if_pos ⟨rfl, rfl⟩]
  · rw [mostS_no (mostB_kind (by dsimp only; decide))]
  · rw [mostS_no (mostB_kind (by dsimp only; decide))]
  · rw [toldS_no (mostB_kind (by dsimp only; decide))]
theorem link_hear {d : RfM} {r : RollM} (h : LinkR d r) (s inc now : Int) : LinkR (hearF d s inc now).1 (hearR r s inc now).1 ∧ (hearF d s inc now).2 = (hearR r s inc now).2 := by
  unfold hearF hearR
  rw [link_is h]
  cases hs : isRl r s with
  | false =>
    simp only [Bool.false_eq_true, false_and, if_false]
    exact ⟨h, trivial⟩
  | true =>
    rw [h.life s hs]
    by_cases hc : 1 ≤ inc ∧ (r.sw s).life ≤ inc
    · simp only [hc.1, hc.2, and_self, if_true]
      refine ⟨?_, trivial⟩
      unfold hearS
      by_cases g : (r.sw s).life < inc
      · rw [if_pos g, if_pos g]
        have h1 := link_heard (link_born h s inc hs) s now hs
        rw [set_at] at h1
        have e : setR (setR r s { sw0 with life := inc }) s { ({ sw0 with life := inc } : SwM) with heard := clockR now } = setR r s { ({ sw0 with life := inc } : SwM) with heard := clockR now } := by
          unfold setR
          simp only
          congr 1
          funext k
          by_cases q : k = s <;> simp [q]
        rw [e] at h1
        exact h1
      · rw [if_neg g, if_neg g]
        exact link_heard h s now hs
    · simp only [hc, and_false, if_false]
      exact ⟨h, trivial⟩
theorem link_new {n : Int} (h : 1 ≤ n ∧ n ≤ 6) : LinkR ⟨n, List.replicate 7 0, []⟩ ⟨n, fun _ => sw0⟩ :=
  ⟨rfl, h, rfl, fun s hs => by
    show (List.replicate 7 (0 : Int)).getD s.toNat 0 = 0
    rw [List.getD_eq_getElem?_getD, List.getElem?_replicate]
    split <;> rfl, fun _ _ => rfl, fun _ _ _ => rfl, fun _ _ => rfl, fun _ _ _ => rfl, fun x hx => absurd hx List.not_mem_nil, fun x hx => absurd hx List.not_mem_nil⟩
end Go.Proofs.Yteongcihannldaa
namespace Go.Proofs.Yteongcihannldaa
open Go Go.RowKit
set_option maxRecDepth 20000

/-! Slices whose elements are one cell each: numbers, floats, truths. -/
/-- Cells, wherever they lie. -/
def VSl (w : World) (v : Value) (L : List Value) : Prop :=
  ∃ (o : Option Addr) (cap : Nat), v = .slice o L.length cap ∧ L.length ≤ cap ∧ cap ≤ maxLen ∧ (o = none → cap = 0) ∧ ∀ (i : Nat) (hi : i < L.length), ∃ g off cur t fr, o = some ⟨g, off, none⟩ ∧ w.heap[g]? = some (.cells cur t fr) ∧ cur[off + i]? = some L[i]
theorem VSl.of_heap {w w' : World} {v : Value} {L : List Value} (h : VSl w v L) (hb : ∀ g o, w.heap[g]? = some o → v.ownBlock = some g → w'.heap[g]? = some o) : VSl w' v L := by
  obtain ⟨o, cap, rfl, h1, h2, h3, h4⟩ := h
  refine ⟨o, cap, rfl, h1, h2, h3, fun i hi => ?_⟩
  obtain ⟨g, off, cur, t, fr, rfl, h5, h6⟩ := h4 i hi
  exact ⟨g, off, cur, t, fr, rfl, hb _ _ h5 rfl, h6⟩
theorem VSl.below {w w' : World} {v : Value} {L : List Value} (h : VSl w v L) (hb : Below w.heap.size w w') : VSl w' v L :=
  h.of_heap fun g _ hg _ => (hb.block g (Array.getElem?_eq_some_iff.1 hg).1).trans hg
theorem VSl.alloc {w : World} {v : Value} {L : List Value} (h : VSl w v L) (x : Obj) : VSl (w.alloc x) v L :=
  h.of_heap fun _ _ hg _ => heap_past _ _ _ _ hg
theorem VSl.slice {w : World} {v : Value} {L : List Value} (h : VSl w v L) : ∃ o cap, v = .slice o L.length cap ∧ L.length ≤ cap ∧ cap ≤ maxLen := by
  obtain ⟨o, cap, rfl, h1, h2, _⟩ := h
  exact ⟨o, cap, rfl, h1, h2⟩
theorem VSl.len {w : World} {o : Option Addr} {n cap : Nat} {L : List Value} (h : VSl w (.slice o n cap) L) : n = L.length := by
  obtain ⟨o', cap', h1, _⟩ := h
  simp only [Value.slice.injEq] at h1
  exact h1.2.1
theorem VSl.at {w : World} {o : Option Addr} {n cap : Nat} {L : List Value} (h : VSl w (.slice o n cap) L) (k : Nat) (hk : k < n) :
    ∃ g off c, o = some ⟨g, off, none⟩ ∧ w.cell? ⟨g, off + k, none⟩ = some c ∧ L[k]? = some c := by
  obtain ⟨o', cap', h1, _, _, _, h3⟩ := h
  simp only [Value.slice.injEq] at h1
  obtain ⟨rfl, rfl, rfl⟩ := h1
  obtain ⟨g, off, cur, t, fr, h4, h5, h6⟩ := h3 k hk
  exact ⟨g, off, L[k], h4, by rw [cell_of_row _ _ _ _ _ _ h5]; exact h6, List.getElem?_eq_getElem hk⟩
theorem VSl.row {w : World} {o : Option Addr} {n cap : Nat} {L : List Value} (h : VSl w (.slice o n cap) L) (k : Nat) (hk : k < n) :
    ∃ g off c, o = some ⟨g, off, none⟩ ∧ (∃ cur t fr, w.heap[g]? = some (.cells cur t fr) ∧ cur[off + k]? = some c) ∧ L[k]? = some c := by
  obtain ⟨o', cap', h1, _, _, _, h3⟩ := h
  simp only [Value.slice.injEq] at h1
  obtain ⟨rfl, rfl, rfl⟩ := h1
  obtain ⟨g, off, cur, t, fr, h4, h5, h6⟩ := h3 k hk
  exact ⟨g, off, L[k], h4, ⟨cur, t, fr, h5, h6⟩, List.getElem?_eq_getElem hk⟩
/-- Cells of one's own. -/
def VOwn (ty : TypeId) (B : Nat) (w : World) (v : Value) (L : List Value) : Prop := w.ownsRow B ty 1 v L.length L
theorem VOwn.sl {ty : TypeId} {B : Nat} {w : World} {v : Value} {L : List Value} (h : VOwn ty B w v L) : VSl w v L := by
  obtain ⟨h1, ⟨rfl, h2⟩ | ⟨g, cap, cur, rfl, hB, hcur, h5, h6, _, h4⟩⟩ := h
  · exact ⟨none, 0, by rw [h2], by omega, Nat.zero_le _, fun _ => rfl, fun i hi => by omega⟩
  · refine ⟨_, cap, rfl, h5, h6, (fun e => by cases e), fun i hi => ⟨g, 0, cur, _, _, rfl, hcur, ?_⟩⟩
    have h7 := congrArg (·[i]?) h4
    rw [Nat.mul_one, List.getElem?_take_of_lt hi, List.getElem?_eq_getElem hi] at h7
    rw [Nat.zero_add]
    simpa using h7
theorem VOwn.nil (ty B : Nat) (w : World) : VOwn ty B w (.slice none 0 0) [] := World.ownsRow_nil _ _ _ _
theorem VOwn.below {ty B : Nat} {w w' : World} {v : Value} {L : List Value} (h : VOwn ty B w v L) (hb : Below w.heap.size w w') : VOwn ty B w' v L := by
  obtain ⟨h1, h2 | ⟨g, cap, cur, rfl, hB, hcur, h3⟩⟩ := h
  · exact ⟨h1, .inl h2⟩
  · exact ⟨h1, .inr ⟨g, cap, cur, rfl, hB, (hb.block g (Array.getElem?_eq_some_iff.1 hcur).1).trans hcur, h3⟩⟩
theorem VOwn.grown {ty B : Nat} {w w' : World} {v : Value} {L : List Value} (h : VOwn ty B w v L) {row : Option Nat} (hg : w.grownBy w' row) (hne : ∀ g, v.ownBlock = some g → row ≠ some g) : VOwn ty B w' v L := by
  obtain ⟨h1, h2 | ⟨g, cap, cur, rfl, hB, hcur, h3⟩⟩ := h
  · exact ⟨h1, .inl h2⟩
  · exact ⟨h1, .inr ⟨g, cap, cur, rfl, hB, (hg.block g (Array.getElem?_eq_some_iff.1 hcur).1 fun e => hne g rfl e.symm).trans hcur, h3⟩⟩
theorem VOwn.set {ty B : Nat} {w : World} {g n cap : Nat} {L : List Value} (h : VOwn ty B w (.slice (some ⟨g, 0, none⟩) n cap) L) (k : Nat) (u : Value) : VOwn ty B (w.setCell ⟨g, k, none⟩ u) (.slice (some ⟨g, 0, none⟩) n cap) (L.set k u) := by
  have hn := h.sl.len
  subst hn
  have := (World.ownsRow.stored h k u).1
  unfold VOwn
  rw [List.length_set]
  exact this
theorem VOwn.setBelow {ty B : Nat} {w : World} {g n cap : Nat} {L : List Value} (h : VOwn ty B w (.slice (some ⟨g, 0, none⟩) n cap) L) (k : Nat) (u : Value) : w.grownBy (w.setCell ⟨g, k, none⟩ u) (some g) := by
  have hn := h.sl.len
  subst hn
  exact (World.ownsRow.stored h k u).2
theorem VOwn.cell {ty B : Nat} {w : World} {g n cap : Nat} {L : List Value} (h : VOwn ty B w (.slice (some ⟨g, 0, none⟩) n cap) L) (k : Nat) (hk : k < n) : ∃ c, w.cell? ⟨g, k, none⟩ = some c ∧ L[k]? = some c ∧ w.frozen? ⟨g, k, none⟩ = false := by
  have hn := h.sl.len
  subst hn
  obtain ⟨g', off, c, e, h1, h2⟩ := h.sl.at k hk
  simp only [Option.some.injEq, Addr.mk.injEq, and_true] at e
  obtain ⟨rfl, rfl⟩ := e
  rw [Nat.zero_add] at h1
  obtain ⟨_, ⟨e, _⟩ | ⟨g', cap', cur, e, hB, hcur, _⟩⟩ := h
  · cases e
  · simp only [Value.slice.injEq, Option.some.injEq, Addr.mk.injEq, and_true] at e
    obtain ⟨⟨rfl, _⟩, _⟩ := e
    exact ⟨c, h1, h2, by simp [World.frozen?, hcur]⟩

/-- What is asked of an element's type. -/
structure Sc (ty sl : TypeId) (z : Value) : Prop where
  hs : Try.prog.underlying sl = some (.slice ty)
  info : ∃ i b, Try.prog.info? ty = some i ∧ i.zero = some z ∧ i.size = 1 ∧ i.bytes = b ∧ 1 ≤ b ∧ b ≤ 8
  hz : z.cells = #[z]
theorem info_of {ty : TypeId} {z : Value} {b : Nat} (h : (Try.prog.info? ty).map (fun i => (i.zero, i.size, i.bytes)) = some (some z, 1, b)) (h1 : 1 ≤ b) (h8 : b ≤ 8) : ∃ i b, Try.prog.info? ty = some i ∧ i.zero = some z ∧ i.size = 1 ∧ i.bytes = b ∧ 1 ≤ b ∧ b ≤ 8 := by
  cases hi : Try.prog.info? ty with
  | none => rw [hi] at h; simp at h
  | some i =>
    rw [hi] at h
    simp only [Option.map_some, Option.some.injEq, Prod.mk.injEq] at h
    exact ⟨i, b, rfl, h.1, h.2.1, h.2.2, h1, h8⟩
theorem scI : Sc 3 53 (.int .i64 0) := ⟨Try.underlying53, info_of (b := 8) (by kernel_rfl) (by decide) (by decide), rfl⟩
/-- So many noughts. -/
theorem wl_makeV {ty sl : TypeId} {z : Value} (S : Sc ty sl z) {ops : Array Oper} {rest : List Oper} {o : Oper} {a : Act} {w : World} {Q : Exit → Act → World → Prop} (hgd : o.guard = none) (x y : Operand) (ho : o.op = .makeSlice sl x y)
    (n : Nat) (hx : a.eval x = .int .i64 (n : Int)) (hy : a.eval y = .int .i64 (n : Int)) (hn : n ≤ 1000000)
    (h : ∀ w', VOwn ty w.heap.size w' (.slice (some ⟨w.heap.size, 0, none⟩) n n) (List.replicate n z) → Below w.heap.size w w' → wpList Try.prog ops Q rest (a.put o.dst (.slice (some ⟨w.heap.size, 0, none⟩) n n)) w') : wpList Try.prog ops Q (o :: rest) a w := by
  obtain ⟨i, b, hi, hz, h1, h2, h3, h4⟩ := S.info
  refine wpList_plain hgd fun K hK => ?_
  obtain ⟨w', hr, hown, hgr⟩ := run_make_full (P := Try.prog) w w.heap.size sl ty i z 1 S.hs hi hz h1 .i64 .i64 n (by rw [h2]; have := Nat.mul_le_mul h4 hn; omega) (by unfold maxLen; omega) (Nat.le_refl _)
  unfold Oper.wp execOp
  simp only [ho, hx, hy, hr, Sem.run_bind, Sem.run_pure, Result.andThen_ok]
  refine hK _ _ (h w' ?_ ((Below.refl _ _).grown hgr (Nat.le_refl _) fun k hk => by cases hk))
  unfold VOwn
  rw [List.length_replicate]
  have e : List.replicate n z = (madeCells z.cells (n * 1)).toList := by
    rw [S.hz, toList_madeCells_one, Nat.mul_one]
  rw [e]
  exact hown
end Go.Proofs.Yteongcihannldaa
