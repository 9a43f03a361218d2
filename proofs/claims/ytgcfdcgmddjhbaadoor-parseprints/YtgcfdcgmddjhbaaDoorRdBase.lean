import Derived.Test.YtgcfdcgmddjhbaaDoorTok
import Derived.Test.YtgcfdcgmddjhbaaDoorRawsAt
import Derived.Test.YtgcfdcgmddjhbaaDoorOrders
import Derived.WalkMore
import Derived.WalkLawsBesides
namespace Go.Proofs.YtgcfdcgmddjhbaaDoor
open Go Go.RowKit
set_option maxRecDepth 20000

/-- What an error is told by: a panic with the error and its place. -/
def faultV (c q : Nat) : Value := .iface 44 (.agg #[.int .i64 (c : Int), .int .i64 (q : Int)])
def Fault (e : Ending) (c q : Nat) : Prop := e = .panicked [{ v := faultV c q, recovered := false }]
/-- The reader at block g: the tokens that are left, and where the text ends; the tokens lie in memory that was there ahead of it. -/
def Rd (W0 w : World) (g E : Nat) (T : List Tok) : Prop :=
  Below W0.heap.size W0 w ∧ W0.heap.size ≤ g ∧ ∃ v, w.heap[g]? = some (.cells #[v, .int .i64 (E : Int)] 46 (0, 0)) ∧ GSl TokE encT W0 v T
/-- What a call that takes tokens comes to. -/
def Took {α : Type} (W0 w : World) (g E : Nat) (R : World → α → Value → Prop) (r : Res (α × List Tok)) (e : Ending) (w' : World) : Prop :=
  w.grownBy w' (some g) ∧ match r with
  | .ok (a, T') => (∃ v, e = .returned v ∧ R w' a v) ∧ Rd W0 w' g E T'
  | .error (c, q) => Fault e c q
/-- The token at hand. -/
def hd (E : Nat) : List Tok → Tok
  | [] => ⟨0, E, [], 0⟩
  | t :: _ => t

theorem Rd.size {W0 w : World} {g E : Nat} {T : List Tok} (h : Rd W0 w g E T) : W0.heap.size ≤ g ∧ g < w.heap.size := by
  obtain ⟨_, h1, v, h2, _⟩ := h
  exact ⟨h1, (Array.getElem?_eq_some_iff.1 h2).1⟩
theorem below_by {W0 w w' : World} {g : Nat} (h : Below W0.heap.size W0 w) (hg : W0.heap.size ≤ g) (hgr : w.grownBy w' (some g)) : Below W0.heap.size W0 w' :=
  ⟨hgr.os.trans h.os, hgr.tape.trans h.tape, hgr.output.trans h.output, Nat.le_trans h.size hgr.size, fun k hk => (hgr.block k (by have := h.size; omega) (by simp; omega)).trans (h.block k hk)⟩
theorem Rd.below {W0 w w' : World} {g E : Nat} {T : List Tok} (h : Rd W0 w g E T) (hb : Below w.heap.size w w') : Rd W0 w' g E T := by
  obtain ⟨h0, h1, v, h2, h3⟩ := h
  exact ⟨h0.trans (hb.mono h0.size), h1, v, (hb.block g (Array.getElem?_eq_some_iff.1 h2).1).trans h2, h3⟩
theorem grown_below {w w' : World} {g : Nat} (hb : Below w.heap.size w w') : w.grownBy w' (some g) :=
  ⟨hb.os, hb.tape, hb.output, hb.size, fun k hk _ => hb.block k hk⟩
theorem grown_trans {a b c : World} {g : Nat} (h : a.grownBy b (some g)) (h' : b.grownBy c (some g)) : a.grownBy c (some g) :=
  ⟨h'.os.trans h.os, h'.tape.trans h.tape, h'.output.trans h.output, Nat.le_trans h.size h'.size, fun k hk hne => (h'.block k (Nat.lt_of_lt_of_le hk h.size) hne).trans (h.block k hk hne)⟩
theorem gb_refl (w : World) (g : Nat) : w.grownBy w (some g) := ⟨rfl, rfl, rfl, Nat.le_refl _, fun _ _ _ => rfl⟩
theorem gb_alloc {w w' : World} {g : Nat} (h : w.grownBy w' (some g)) (o : Obj) : w.grownBy (w'.alloc o) (some g) :=
  grown_trans h (grown_below ((Below.refl _ _).alloc (Nat.le_refl _) o))
theorem gb_setCell {w w' : World} {g : Nat} (h : w.grownBy w' (some g)) {k : Nat} (hk : k = g ∨ w.heap.size ≤ k) (i : Nat) (v : Value) : w.grownBy (w'.setCell ⟨k, i, none⟩ v) (some g) :=
  ⟨h.os, h.tape, h.output, by rw [tc_size]; exact h.size, fun j hj hne => (tc_far (by rintro rfl; rcases hk with rfl | hk; exact hne rfl; omega) v).trans (h.block j hj hne)⟩
theorem gb_setRow {w w' : World} {g : Nat} (h : w.grownBy w' (some g)) {k : Nat} (hk : k = g ∨ w.heap.size ≤ k) (cs : Array Value) : w.grownBy (w'.setRow k cs) (some g) :=
  ⟨h.os, h.tape, h.output, by rw [setRow_size]; exact h.size, fun j hj hne => (setRow_other w' k j cs (by rintro rfl; rcases hk with rfl | hk; exact hne rfl; omega)).trans (h.block j hj hne)⟩
theorem Rd.alloc {W0 w : World} {g E : Nat} {T : List Tok} (h : Rd W0 w g E T) (o : Obj) : Rd W0 (w.alloc o) g E T := h.below ((Below.refl _ _).alloc (Nat.le_refl _) o)
theorem rd_setRow {W0 w : World} {g E : Nat} {T : List Tok} (h : Rd W0 w g E T) {k : Nat} (hk : k ≠ g) (hk2 : W0.heap.size ≤ k) (cs : Array Value) : Rd W0 (w.setRow k cs) g E T := by
  obtain ⟨h0, h1, v, h2, h3⟩ := h
  exact ⟨below_setRow h0 hk2 _, h1, v, (setRow_other _ _ _ _ (Ne.symm hk)).trans h2, h3⟩
theorem rd_setCell {W0 w : World} {g E : Nat} {T : List Tok} (h : Rd W0 w g E T) {k : Nat} (hk : k ≠ g) (hk2 : W0.heap.size ≤ k) (i : Nat) (v : Value) : Rd W0 (w.setCell ⟨k, i, none⟩ v) g E T := by
  obtain ⟨h0, h1, u, h2, h3⟩ := h
  exact ⟨tc_below h0 hk2 _ _, h1, u, (tc_far hk _).trans h2, h3⟩
theorem gb_own {w w1 w2 : World} {g : Nat} {b : Option Nat} (h : w.grownBy w1 (some g)) (h' : w1.grownBy w2 b) (hb : ∀ k, b = some k → w.heap.size ≤ k) : w.grownBy w2 (some g) :=
  ⟨h'.os.trans h.os, h'.tape.trans h.tape, h'.output.trans h.output, Nat.le_trans h.size h'.size, fun k hk hne => (h'.block k (Nat.lt_of_lt_of_le hk h.size) (fun hq => by have := hb k hq.symm; omega)).trans (h.block k hk hne)⟩
theorem rd_own {W0 w1 w2 : World} {g E : Nat} {T : List Tok} {b : Option Nat} (h : Rd W0 w1 g E T) (h' : w1.grownBy w2 b) (hb : ∀ k, b = some k → g < k) : Rd W0 w2 g E T := by
  obtain ⟨h0, h1, v, h2, h3⟩ := h
  refine ⟨⟨h'.os.trans h0.os, h'.tape.trans h0.tape, h'.output.trans h0.output, Nat.le_trans h0.size h'.size, fun k hk => (h'.block k (by have := h0.size; omega) (fun hq => by have := hb k hq.symm; omega)).trans (h0.block k hk)⟩, h1, v, ?_, h3⟩
  exact (h'.block g (Array.getElem?_eq_some_iff.1 h2).1 (fun hq => by have := hb g hq.symm; omega)).trans h2
theorem own_by {w w' : World} {g B : Nat} (hgr : w.grownBy w' (some g)) (hB : g < B) {e : TypeId} {s : Nat} {u : Value} {m : Nat} {ys : List Value} (h : w.ownsRow B e s u m ys) : w'.ownsRow B e s u m ys :=
  own_grown hgr h fun k hk hu => by
    obtain rfl := Option.some.inj hk
    have := (h.lt g hu).1
    omega
/-- The tokens behind the first one. -/
theorem gsl_tail {w : World} {t : Tok} {T : List Tok} {b off cap : Nat} (h : GSl TokE encT w (.slice (some ⟨b, off, none⟩) (T.length + 1) cap) (t :: T)) (o' : Option Addr) (ho : T ≠ [] → o' = some ⟨b, off + 4, none⟩) : GSl TokE encT w (.slice o' T.length (cap - 1)) T := by
  obtain ⟨o, cap', h1, h2, h3, h4⟩ := h
  simp only [Value.slice.injEq, List.length_cons] at h1 h2
  obtain ⟨rfl, _, rfl⟩ := h1
  refine ⟨o', cap - 1, rfl, by omega, by omega, fun i hi => ?_⟩
  obtain ⟨g, off', cur, ty, fr, e1, e2, e3⟩ := h4 (i + 1) (by simpa using hi)
  simp only [Option.some.injEq, Addr.mk.injEq] at e1
  obtain ⟨rfl, rfl, _⟩ := e1
  refine ⟨b, off + 4, cur, ty, fr, ho (by rintro rfl; simp at hi), e2, fun j hj => ?_⟩
  have := e3 j hj
  rw [List.getElem_cons_succ] at this
  rw [← this]
  congr 1
  show off + 4 + i * 4 + j = off + (i + 1) * 4 + j
  omega
end Go.Proofs.YtgcfdcgmddjhbaaDoor
