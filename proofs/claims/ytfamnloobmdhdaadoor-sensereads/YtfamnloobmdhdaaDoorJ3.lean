import Derived.Test.YtfamnloobmdhdaaDoorJ2
import Derived.WalkMore
import Derived.WalkLawsBesides
namespace Go.Proofs.YtfamnloobmdhdaaDoor
open Go Go.RowKit
set_option maxRecDepth 20000

/-- What an error is told by: a panic with the error and its place. -/
def faultV (c q : Nat) : Value := .iface 82 (.agg #[.int .i64 (c : Int), .int .i64 (q : Int)])
def Fault (e : Ending) (c q : Nat) : Prop := e = .panicked [{ v := faultV c q, recovered := false }]
/-- The reader at block g: the tokens that are left, and where the text ends; the tokens lie in memory that was there ahead of it. -/
def Rd (W0 w : World) (g E : Nat) (T : List Tok) : Prop :=
  Below W0.heap.size W0 w ∧ W0.heap.size ≤ g ∧ ∃ v, w.heap[g]? = some (.cells #[v, .int .i64 (E : Int)] 84 (0, 0)) ∧ GSl TokE encT W0 v T
/-- What a call that takes tokens comes to. -/
def Took {α : Type} (W0 w : World) (g E : Nat) (R : World → α → Value → Prop) (r : Res (α × List Tok)) (e : Ending) (w' : World) : Prop :=
  w.grownBy w' (some g) ∧ match r with
  | .ok (a, T') => (∃ v, e = .returned v ∧ R w' a v) ∧ Rd W0 w' g E T'
  | .error (c, q) => Fault e c q
/-- The token at hand. -/
def hd (E : Nat) : List Tok → Tok
  | [] => ⟨0, E, [], 0⟩
  | t :: _ => t

theorem Rd.size {W0 w : World} {g E : Nat} {T : List Tok} (h : Rd W0 w g E T) : W0.heap.size ≤ g ∧ g < w.heap.size := by
  obtain ⟨_, h1, v, h2, _⟩ := h
  exact ⟨h1, (Array.getElem?_eq_some_iff.1 h2).1⟩
theorem Rd.below {W0 w w' : World} {g E : Nat} {T : List Tok} (h : Rd W0 w g E T) (hb : Below w.heap.size w w') : Rd W0 w' g E T := by
  obtain ⟨h0, h1, v, h2, h3⟩ := h
  exact ⟨h0.trans (hb.mono h0.size), h1, v, (hb.block g (Array.getElem?_eq_some_iff.1 h2).1).trans h2, h3⟩
theorem grown_below {w w' : World} {g : Nat} (hb : Below w.heap.size w w') : w.grownBy w' (some g) :=
  ⟨hb.os, hb.tape, hb.output, hb.size, fun k hk _ => hb.block k hk⟩
theorem grown_trans {a b c : World} {g : Nat} (h : a.grownBy b (some g)) (h' : b.grownBy c (some g)) : a.grownBy c (some g) :=
  ⟨h'.os.trans h.os, h'.tape.trans h.tape, h'.output.trans h.output, Nat.le_trans h.size h'.size, fun k hk hne => (h'.block k (Nat.lt_of_lt_of_le hk h.size) hne).trans (h.block k hk hne)⟩
theorem gb_refl (w : World) (g : Nat) : w.grownBy w (some g) := ⟨rfl, rfl, rfl, Nat.le_refl _, fun _ _ _ => rfl⟩
theorem gb_alloc {w w' : World} {g : Nat} (h : w.grownBy w' (some g)) (o : Obj) : w.grownBy (w'.alloc o) (some g) :=
  grown_trans h (grown_below ((Below.refl _ _).alloc (Nat.le_refl _) o))
theorem gb_setCell {w w' : World} {g : Nat} (h : w.grownBy w' (some g)) {k : Nat} (hk : k = g ∨ w.heap.size ≤ k) (i : Nat) (v : Value) : w.grownBy (w'.setCell ⟨k, i, none⟩ v) (some g) :=
  ⟨h.os, h.tape, h.output, by rw [tc_size]; exact h.size, fun j hj hne => (tc_far (by rintro rfl; rcases hk with rfl | hk; exact hne rfl; omega) v).trans (h.block j hj hne)⟩
theorem gb_setRow {w w' : World} {g : Nat} (h : w.grownBy w' (some g)) {k : Nat} (hk : k = g ∨ w.heap.size ≤ k) (cs : Array Value) : w.grownBy (w'.setRow k cs) (some g) :=
  ⟨h.os, h.tape, h.output, by rw [setRow_size]; exact h.size, fun j hj hne => (setRow_other w' k j cs (by rintro rfl; rcases hk with rfl | hk; exact hne rfl; omega)).trans (h.block j hj hne)⟩
theorem Rd.alloc {W0 w : World} {g E : Nat} {T : List Tok} (h : Rd W0 w g E T) (o : Obj) : Rd W0 (w.alloc o) g E T := h.below ((Below.refl _ _).alloc (Nat.le_refl _) o)
theorem rd_setRow {W0 w : World} {g E : Nat} {T : List Tok} (h : Rd W0 w g E T) {k : Nat} (hk : k ≠ g) (hk2 : W0.heap.size ≤ k) (cs : Array Value) : Rd W0 (w.setRow k cs) g E T := by
  obtain ⟨h0, h1, v, h2, h3⟩ := h
  exact ⟨below_setRow h0 hk2 _, h1, v, (setRow_other _ _ _ _ (Ne.symm hk)).trans h2, h3⟩
theorem rd_setCell {W0 w : World} {g E : Nat} {T : List Tok} (h : Rd W0 w g E T) {k : Nat} (hk : k ≠ g) (hk2 : W0.heap.size ≤ k) (i : Nat) (v : Value) : Rd W0 (w.setCell ⟨k, i, none⟩ v) g E T := by
  obtain ⟨h0, h1, u, h2, h3⟩ := h
  exact ⟨tc_below h0 hk2 _ _, h1, u, (tc_far hk _).trans h2, h3⟩
theorem gb_own {w w1 w2 : World} {g : Nat} {b : Option Nat} (h : w.grownBy w1 (some g)) (h' : w1.grownBy w2 b) (hb : ∀ k, b = some k → w.heap.size ≤ k) : w.grownBy w2 (some g) :=
  ⟨h'.os.trans h.os, h'.tape.trans h.tape, h'.output.trans h.output, Nat.le_trans h.size h'.size, fun k hk hne => (h'.block k (Nat.lt_of_lt_of_le hk h.size) (fun hq => by have := hb k hq.symm; omega)).trans (h.block k hk hne)⟩
theorem rd_own {W0 w1 w2 : World} {g E : Nat} {T : List Tok} {b : Option Nat} (h : Rd W0 w1 g E T) (h' : w1.grownBy w2 b) (hb : ∀ k, b = some k → g < k) : Rd W0 w2 g E T := by
  obtain ⟨h0, h1, v, h2, h3⟩ := h
  refine ⟨⟨h'.os.trans h0.os, h'.tape.trans h0.tape, h'.output.trans h0.output, Nat.le_trans h0.size h'.size, fun k hk => (h'.block k (by have := h0.size; omega) (fun hq => by have := hb k hq.symm; omega)).trans (h0.block k hk)⟩, h1, v, ?_, h3⟩
  exact (h'.block g (Array.getElem?_eq_some_iff.1 h2).1 (fun hq => by have := hb g hq.symm; omega)).trans h2
theorem own_by {w w' : World} {g B : Nat} (hgr : w.grownBy w' (some g)) (hB : g < B) {e : TypeId} {s : Nat} {u : Value} {m : Nat} {ys : List Value} (h : w.ownsRow B e s u m ys) : w'.ownsRow B e s u m ys :=
  own_grown hgr h fun k hk hu => by
    obtain rfl := Option.some.inj hk
    have := (h.lt g hu).1
    omega
/-- The tokens behind the first one. -/
theorem gsl_tail {w : World} {t : Tok} {T : List Tok} {b off cap : Nat} (h : GSl TokE encT w (.slice (some ⟨b, off, none⟩) (T.length + 1) cap) (t :: T)) (o' : Option Addr) (ho : T ≠ [] → o' = some ⟨b, off + 4, none⟩) : GSl TokE encT w (.slice o' T.length (cap - 1)) T := by
  obtain ⟨o, cap', h1, h2, h3, h4⟩ := h
  simp only [Value.slice.injEq, List.length_cons] at h1 h2
  obtain ⟨rfl, _, rfl⟩ := h1
  refine ⟨o', cap - 1, rfl, by omega, by omega, fun i hi => ?_⟩
  obtain ⟨g, off', cur, ty, fr, e1, e2, e3⟩ := h4 (i + 1) (by simpa using hi)
  simp only [Option.some.injEq, Addr.mk.injEq] at e1
  obtain ⟨rfl, rfl, _⟩ := e1
  refine ⟨b, off + 4, cur, ty, fr, ho (by rintro rfl; simp at hi), e2, fun j hj => ?_⟩
  have := e3 j hj
  rw [List.getElem_cons_succ] at this
  rw [← this]
  congr 1
  show off + 4 + i * 4 + j = off + (i + 1) * 4 + j
  omega
end Go.Proofs.YtfamnloobmdhdaaDoor
namespace Go.Proofs.YtfamnloobmdhdaaDoor
open Go Go.RowKit
set_option maxRecDepth 20000

theorem retE {E : El} (H : E.Ok) {fn : Func} {R : Ending → World → Prop} {a : Act} {w : World} {p : Tmp} (hr : fn.results = #[.cell p E.elem]) (hd : a.defers = []) (g : Nat) (hp : a.tmps.getD p undef = .pointer (some ⟨g, 0, none⟩)) (cs : Array Value) (hcs : cs.size = E.size)
    (hg : w.heap[g]? = some (.cells cs E.elem (0, 0))) (h : R (.returned (.agg cs)) w) : bodyPost Tryd.prog fn R .ret a w := by
  refine bodyPost_ret (v := .agg cs) ?_ hd h
  rw [Array.getD_eq_getD_getElem?] at hp
  have hl := H.load w g 0 cs E.elem (0, 0) cs hcs hg (own_cells _ _)
  simp [results, hr, hp, asAddr, hl]
theorem retBE {E : El} (H : E.Ok) {fn : Func} {R : Ending → World → Prop} {a : Act} {w : World} {u p : Tmp} (hr : fn.results = #[.tmp u, .cell p E.elem]) (hd : a.defers = []) (g : Nat) (hp : a.tmps.getD p undef = .pointer (some ⟨g, 0, none⟩)) (cs : Array Value) (hcs : cs.size = E.size)
    (hg : w.heap[g]? = some (.cells cs E.elem (0, 0))) (v : Value) (hu : a.tmps.getD u undef = v) (h : R (.returned (.tuple #[v, .agg cs])) w) : bodyPost Tryd.prog fn R .ret a w := by
  refine bodyPost_ret (v := .tuple #[v, .agg cs]) ?_ hd h
  rw [Array.getD_eq_getD_getElem?] at hp hu
  have hl := H.load w g 0 cs E.elem (0, 0) cs hcs hg (own_cells _ _)
  simp [results, hr, hp, hu, asAddr, hl]

set_option maxHeartbeats 2000000 in
theorem peek_any (W0 w : World) (g E : Nat) (T : List Tok) (h : Rd W0 w g E T) :
    Calls Tryd.prog 66 #[.pointer (some ⟨g, 0, none⟩)] w fun e w' => e = .returned (.agg (encT (hd E T))) ∧ Below w.heap.size w w' := by
  obtain ⟨h0, h1, v, h2, h3⟩ := h
  have hgl := (Array.getElem?_eq_some_iff.1 h2).1
  have h3' := h3.below h0
  cases T with
  | nil =>
    obtain ⟨o, cap, rfl, _, _⟩ := h3'.slice
    have c0 : ∀ x, (w.alloc x).cell? ⟨g, 0, none⟩ = some (.slice o 0 cap) := fun x => by rw [cell_of_row _ _ _ _ _ _ (heap_past _ _ _ _ h2)]; rfl
    have c1 : ∀ x, (w.alloc x).cell? ⟨g, 1, none⟩ = some (.int .i64 (E : Int)) := fun x => by rw [cell_of_row _ _ _ _ _ _ (heap_past _ _ _ _ h2)]; rfl
    clear h0 h1 h2 h3 h3'
    go_enter Tryd.func66, Tryd.ntmps66
    go_wp2_with (first
      | (refine wl_storeE (E := TokE) TokOk rfl _ _ rfl w.heap.size (tv 0 (E : Nat) ⟨#[]⟩ 0) (tv_fits _ _ _ _) rfl rfl _ (heap_new _ _ _ rfl) rfl _ (setRow_new _ _ _ _ _ rfl) ?_))
    refine retE (E := TokE) TokOk rfl rfl w.heap.size rfl (tv 0 (E : Nat) ⟨#[]⟩ 0) rfl (heap_new _ _ _ rfl) ?_
    exact ⟨rfl, (Below.refl _ _).alloc (Nat.le_refl _) _⟩
  | cons t T =>
    obtain ⟨o, cap, rfl, hcap, hm⟩ := h3'.slice
    obtain ⟨b, off, cur, ty, fr, c, rfl, hb, hc, hck⟩ := h3'.at 0 (by simp)
    obtain rfl : t = c := by simpa using hck
    have c0 : ∀ x, (w.alloc x).cell? ⟨g, 0, none⟩ = some (.slice (some ⟨b, off, none⟩) (T.length + 1) cap) := fun x => by rw [cell_of_row _ _ _ _ _ _ (heap_past _ _ _ _ h2)]; rfl
    have HB : Hid (∀ x, (w.alloc x).heap[b]? = some (.cells cur ty fr)) := fun x => heap_past _ _ _ _ hb
    have HC : Hid (∀ j, j < 4 → cur[off + 0 * 4 + j]? = (encT t)[j]?) := hc
    have hl : ((T.length : Int) + 1 == 0) = false := by simp; omega
    simp only [List.length_cons] at hcap
    unfold maxLen at hm
    clear h0 h1 h2 h3 h3' hb hc hck
    go_enter Tryd.func66, Tryd.ntmps66
    go_wp2_with (first
      | (refine wl_loadE (E := TokE) TokOk rfl _ rfl b (off + 0 * 4) rfl cur ty fr (encT t) rfl (HB.out _) HC.out ?_)
      | (refine wl_storeE (E := TokE) TokOk rfl _ _ rfl w.heap.size (encT t) (tv_fits _ _ _ _) rfl rfl _ (heap_new _ _ _ rfl) rfl _ (setRow_new _ _ _ _ _ rfl) ?_))
    refine retE (E := TokE) TokOk rfl rfl w.heap.size rfl (encT t) rfl (heap_new _ _ _ rfl) ?_
    exact ⟨rfl, (Below.refl _ _).alloc (Nat.le_refl _) _⟩
theorem tok_cells {w : World} {b : Nat} {t : Tok} {ty : TypeId} {fr : Nat × Nat} (h : w.heap[b]? = some (.cells (encT t) ty fr)) :
    w.cell? ⟨b, 0, none⟩ = some (.int .i64 (t.kind : Int)) ∧ w.cell? ⟨b, 1, none⟩ = some (.int .i64 (t.pos : Int)) ∧ w.cell? ⟨b, 2, none⟩ = some (.string ⟨t.text.toArray⟩) ∧ w.cell? ⟨b, 3, none⟩ = some (.int .i64 (t.num : Int)) := by
  refine ⟨?_, ?_, ?_, ?_⟩ <;> (rw [cell_of_row _ _ _ _ _ _ h]; rfl)
theorem tok_f0 (t : Tok) (W : World) : (Instr.field 90 (.agg (encT t)) 0).run Tryd.prog W = .ok (.int .i64 (t.kind : Int)) W := by kernel_rfl
theorem tok_f1 (t : Tok) (W : World) : (Instr.field 90 (.agg (encT t)) 1).run Tryd.prog W = .ok (.int .i64 (t.pos : Int)) W := by kernel_rfl
theorem tok_f2 (t : Tok) (W : World) : (Instr.field 90 (.agg (encT t)) 2).run Tryd.prog W = .ok (.string ⟨t.text.toArray⟩) W := by kernel_rfl
theorem takeK_no {E k : Nat} {T : List Tok} (h : (hd E T).kind ≠ k) : takeK E k T = .error (8, (hd E T).pos) := by
  cases T with
  | nil => rfl
  | cons t T => exact if_neg h
theorem takeK_yes {E k : Nat} (hk : k ≠ 0) {T : List Tok} (h : (hd E T).kind = k) : ∃ T', T = hd E T :: T' ∧ takeK E k T = .ok (hd E T, T') := by
  cases T with
  | nil => exact absurd h.symm hk
  | cons t T => exact ⟨T, rfl, if_pos h⟩

theorem slice_tail (b off n cap : Nat) (h : n + 1 ≤ cap) (hm : cap ≤ 2 ^ 63 - 1) (T' : List Tok) (hT : T'.length = n) : ∃ o' : Option Addr, (T' ≠ [] → o' = some ⟨b, off + 4, none⟩) ∧ ∀ W, (Instr.sliceAt 78 (.slice (some ⟨b, off, none⟩) (n + 1) cap) (some (.int .i64 1)) none none).run Tryd.prog W = .ok (.slice o' n (cap - 1)) W := by
  by_cases hc : cap = 1
  · subst hc
    refine ⟨some ⟨b, off, none⟩, fun hn => ?_, fun W => ?_⟩
    · exfalso
      exact hn (List.length_eq_zero_iff.1 (by omega))
    · obtain rfl : n = 0 := by omega
      simp [go_sem, Tryd.underlying78]
  · refine ⟨some ⟨b, off + 4, none⟩, fun _ => rfl, fun W => ?_⟩
    simp [go_sem, Tryd.underlying78]
    rw [if_pos (by omega), if_neg hc]

set_option maxHeartbeats 2000000 in
theorem take_any (W0 w : World) (g E k : Nat) (hk : k ≠ 0) (T : List Tok) (h : Rd W0 w g E T) :
    Calls Tryd.prog 67 #[.pointer (some ⟨g, 0, none⟩), .int .i64 (k : Int)] w fun e w' => Took W0 w g E (fun _ t v => v = .agg (encT t)) (takeK E k T) e w' := by
  have C1 : Hid (∀ W, Below w.heap.size w W → Calls Tryd.prog 66 #[.pointer (some ⟨g, 0, none⟩)] W fun e w' => e = .returned (.agg (encT (hd E T))) ∧ Below W.heap.size W w') := fun W hb => peek_any W0 W g E T (h.below hb)
  have hgl := h.size
  have H : Hid (Rd W0 w g E T) := h
  clear h
  by_cases hc : (hd E T).kind = k
  · obtain ⟨T', hT, hR⟩ := takeK_yes hk hc
    have HR : Hid (takeK E k T = .ok (hd E T, T')) := hR
    have hne : (((hd E T).kind : Int) != (k : Int)) = false := by simp; omega
    have HT : Hid (T = hd E T :: T') := hT
    obtain ⟨t, ht⟩ : ∃ t, t = hd E T := ⟨_, rfl⟩
    rw [← ht] at C1 hne HR HT
    clear hc hR ht hT
    go_enter Tryd.func67, Tryd.ntmps67
    go_wp2_with fail
    refine (C1.out _ ?_).mono ?_
    · exact (Below.refl _ _).alloc (Nat.le_refl _) _
    rintro e w1 ⟨rfl, hb1⟩
    have B1 : Below w.heap.size w w1 := ((Below.refl _ _).alloc (Nat.le_refl _) _).trans (hb1.mono (by simp))
    have z1 : w.heap.size < w1.heap.size := by have := hb1.size; simp at this; omega
    have hr1 : Hid (w1.heap[w.heap.size]? = some (.cells (tv 0 0 ⟨#[]⟩ 0) 90 (0, 0))) := (hb1.block _ (by simp)).trans (heap_new _ _ _ rfl)
    have R1 := H.out.below B1
    obtain ⟨q0, q1, v, q2, q3⟩ := R1
    rw [HT.out] at q3
    obtain ⟨o, cap, rfl, hcap, hm⟩ := q3.slice
    obtain ⟨b, off, cur, ty, fr, c, rfl, _, _, _⟩ := q3.at 0 (by simp)
    have c0 : ∀ x, (w1.alloc x).cell? ⟨g, 0, none⟩ = some (.slice (some ⟨b, off, none⟩) (T'.length + 1) cap) := fun x => by rw [cell_of_row _ _ _ _ _ _ (heap_past _ _ _ _ q2)]; rfl
    have z0 : ∀ x, (w1.alloc x).frozen? ⟨g, 0, none⟩ = false := fun x => tc_frozen (heap_past _ _ _ _ q2) rfl
    obtain ⟨t0, t1, t2, t3⟩ := tok_cells (heap_new w1 (.cells (encT t) 90) _ rfl)
    simp only [List.length_cons] at hcap
    unfold maxLen at hm
    obtain ⟨o', ho', hsl⟩ : ∃ o' : Option Addr, (T' ≠ [] → o' = some ⟨b, off + 4, none⟩) ∧ ∀ W, (Instr.sliceAt 78 (.slice (some ⟨b, off, none⟩) (T'.length + 1) cap) (some (.int .i64 1)) none none).run Tryd.prog W = .ok (.slice o' T'.length (cap - 1)) W := slice_tail b off T'.length cap (by omega) hm T' rfl
    have HQ : Hid (GSl TokE encT W0 (.slice o' T'.length (cap - 1)) T') := gsl_tail q3 o' ho'
    have HQ2 : Hid (w1.heap[g]? = some (.cells #[.slice (some ⟨b, off, none⟩) (T'.length + 1) cap, .int .i64 (E : Int)] 84 (0, 0))) := q2
    have hrr : Hid (((w1.alloc (.cells (encT t) 90)).setCell ⟨g, 0, none⟩ (.slice o' T'.length (cap - 1))).heap[w.heap.size]? = some (.cells (tv 0 0 ⟨#[]⟩ 0) 90 (0, 0))) := (tc_far (by omega) _).trans (heap_past _ _ _ _ hr1.out)
    clear q2 q3 ho' hr1
    go_wp2_with (first
      | (refine wl_storeE (E := TokE) TokOk rfl _ _ rfl w1.heap.size (encT t) (tv_fits _ _ _ _) rfl rfl _ (heap_new _ _ _ rfl) rfl _ (setRow_new _ _ _ _ _ rfl) ?_)
      | (refine wl_loadE (E := TokE) TokOk rfl _ rfl w1.heap.size 0 rfl _ _ _ (encT t) rfl ((tc_far (by omega) _).trans (heap_new _ _ _ rfl)) (own_cells _ _) ?_)
      | (refine wl_storeE (E := TokE) TokOk rfl _ _ rfl w.heap.size (encT t) (tv_fits _ _ _ _) rfl rfl _ hrr.out rfl _ rfl ?_))
    refine retE (E := TokE) TokOk rfl rfl w.heap.size rfl (encT t) rfl (setRow_heap _ _ _ _ _ _ hrr.out) ?_
    have G1 : w.grownBy w1 (some g) := grown_below B1
    refine ⟨gb_setRow (gb_setCell (gb_alloc G1 _) (.inl rfl) _ _) (.inr (Nat.le_refl _)) _, ?_⟩
    rw [HR.out]
    refine ⟨⟨_, rfl, rfl⟩, below_setRow (tc_below (q0.alloc q0.size _) q1 _ _) (by omega) _, q1, _, ?_, HQ.out⟩
    rw [setRow_other _ _ _ _ (by omega), tc_row (heap_past _ _ _ _ HQ2.out)]
    rfl
  · have hR := takeK_no hc
    have HR : Hid (takeK E k T = .error (8, (hd E T).pos)) := hR
    have hne : (((hd E T).kind : Int) != (k : Int)) = true := by simp; omega
    obtain ⟨t, ht⟩ : ∃ t, t = hd E T := ⟨_, rfl⟩
    rw [← ht] at C1 hne HR
    clear hc hR ht
    go_enter Tryd.func67, Tryd.ntmps67
    go_wp2_with fail
    refine (C1.out _ ?_).mono ?_
    · exact (Below.refl _ _).alloc (Nat.le_refl _) _
    rintro e w1 ⟨rfl, hb1⟩
    have B1 : Below w.heap.size w w1 := ((Below.refl _ _).alloc (Nat.le_refl _) _).trans (hb1.mono (by simp))
    obtain ⟨t0, t1, t2, t3⟩ := tok_cells (heap_new w1 (.cells (encT t) 90) _ rfl)
    go_wp2_with (first
      | (refine wl_storeE (E := TokE) TokOk rfl _ _ rfl w1.heap.size (encT t) (tv_fits _ _ _ _) rfl rfl _ (heap_new _ _ _ rfl) rfl _ (setRow_new _ _ _ _ _ rfl) ?_))
    refine ⟨rfl, gb_alloc (grown_below B1) _, ?_⟩
    rw [HR.out]
    rfl
end Go.Proofs.YtfamnloobmdhdaaDoor
namespace Go.Proofs.YtfamnloobmdhdaaDoor
open Go Go.RowKit
set_option maxRecDepth 20000

set_option maxHeartbeats 2000000 in
theorem sameWord_any (w : World) (k : Nat) (t : Tok) (c : Cla) (u : Value) (hu : ∃ o n m, u = .slice o n m) (hk : w.heap[k]? = some (.cells (encT t) 90 (0, 0))) :
    Calls Tryd.prog 103 #[.agg (claV c u), .pointer (some ⟨k, 0, none⟩)] w fun e w' => e = .returned (.bool (c.word == t.text)) ∧ Below w.heap.size w w' := by
  obtain ⟨o, n, m, rfl⟩ := hu
  have t2 : ∀ x, (w.alloc x).cell? ⟨k, 2, none⟩ = some (.string ⟨t.text.toArray⟩) := fun x => (tok_cells (heap_past _ x _ _ hk)).2.2.1
  have n0 := heap_new w (.cells (claV c (.slice o n m)) 54) _ rfl
  have c0 : (w.alloc (.cells (claV c (.slice o n m)) 54)).cell? ⟨w.heap.size, 0, none⟩ = some (.string ⟨c.word.toArray⟩) := by rw [cell_of_row _ _ _ _ _ _ n0]; rfl
  clear hk n0
  go_enter Tryd.func103, Tryd.ntmps103
  go_wp2_with fail
  go_ret
  exact ⟨rfl, (Below.refl _ _).alloc (Nat.le_refl _) _⟩

theorem any_take_succ {C : List Cla} {j : Nat} {c : Cla} (h : C[j]? = some c) (q : Cla → Bool) : (C.take (j + 1)).any q = ((C.take j).any q || q c) := by
  obtain ⟨hj, rfl⟩ := List.getElem?_eq_some_iff.1 h
  rw [List.take_succ_eq_append_getElem hj, List.any_append]
  simp
set_option maxHeartbeats 4000000 in
theorem indexFunc_any {R : World → Cla → Value → Prop} (hR : ∀ w c u, R w c u → ∃ o n m, u = .slice o n m) (w : World) (v : Value) (C : List Cla) (h : NSl ClaE claV R w v C) (k : Nat) (t : Tok) (hk : w.heap[k]? = some (.cells (encT t) 90 (0, 0))) :
    Calls Tryd.prog 96 #[v, .func (.func 103) #[] #[.pointer (some ⟨k, 0, none⟩)]] w fun e w' => (∃ i : Int, e = .returned (.int .i64 i) ∧ ((decide (0 ≤ i)) = C.any (fun c => c.word == t.text))) ∧ Below w.heap.size w w' := by
  obtain ⟨o, cap, rfl, hcap, hm⟩ := h.slice
  have CS : Hid (∀ W c u, (∃ o n m, u = .slice o n m) → Below w.heap.size w W → Calls Tryd.prog 103 #[.agg (claV c u), .pointer (some ⟨k, 0, none⟩)] W fun e w' => e = .returned (.bool (c.word == t.text)) ∧ Below W.heap.size W w') := fun W c u hu hb => sameWord_any W k t c u hu ((hb.block k (Array.getElem?_eq_some_iff.1 hk).1).trans hk)
  obtain ⟨n, hn⟩ : ∃ n, n = C.length := ⟨_, rfl⟩
  have HN : Hid (n = C.length) := hn
  rw [← hn] at h hcap ⊢
  have H : Hid (NSl ClaE claV R w (.slice o n cap) C) := h
  unfold maxLen at hm
  clear h hk hn
  go_enter Tryd.func96, Tryd.ntmps96
  go_wp2_with fail
  go_loopw [8] (fun x wr => ∃ j : Nat, j ≤ n ∧ x = .int .i64 (j : Int) ∧ Hid ((C.take j).any (fun c => c.word == t.text) = false) ∧ Below w.heap.size w wr) (fun x _ => n - (intOf x).toNat)
  case atStart => exact ⟨0, Nat.zero_le _, rfl, rfl, Below.refl _ _⟩
  case round =>
    obtain ⟨j, hj, rfl, HJ, hb⟩ := hrel
    by_cases hlt : j < n
    · obtain ⟨g, off, cur, ty, fr, c, u, rfl, hg, hc, hCj, hr⟩ := H.out.at j hlt
      obtain ⟨o1, n1, m1, rfl⟩ := hR _ _ _ hr
      have k1 : Hid (wr.heap[g]? = some (.cells cur ty fr)) := (hb.block g (Array.getElem?_eq_some_iff.1 hg).1).trans hg
      have H1 : Hid (∀ i, i < 5 → cur[off + j * 5 + i]? = (claV c (.slice o1 n1 m1))[i]?) := hc
      have HT := any_take_succ hCj (fun c => c.word == t.text)
      rw [HJ.out, Bool.false_or] at HT
      have HTT : Hid ((C.take (j + 1)).any (fun c => c.word == t.text) = (c.word == t.text)) := HT
      have hlt' : (j : Int) < (n : Int) := by omega
      clear hg hc hCj hr HT
      go_wp2_with (first
        | (refine wl_loadE (E := ClaE) ClaOk rfl _ rfl g (off + j * 5) rfl cur ty fr (claV c (.slice o1 n1 m1)) rfl k1.out H1.out ?_))
      refine (CS.out _ c _ ⟨_, _, _, rfl⟩ hb).mono ?_
      rintro e w1 ⟨rfl, hb1⟩
      have B1 := hb.trans (hb1.mono hb.size)
      clear hb hb1
      by_cases hq : (c.word == t.text) = true
      · have HALL : Hid (C.any (fun c => c.word == t.text) = true) := by
          show _ = _
          have := HTT.out
          rw [hq] at this
          obtain ⟨x, hx, hx2⟩ := List.any_eq_true.1 this
          exact List.any_eq_true.2 ⟨x, List.mem_of_mem_take hx, hx2⟩
        rw [hq]
        clear hq
        go_wp2_with fail
        go_ret
        refine ⟨⟨_, rfl, ?_⟩, B1⟩
        rw [HALL.out]
        simp
      · have hq' : (c.word == t.text) = false := by simpa using hq
        rw [hq'] at HTT
        rw [hq']
        clear hq hq'
        go_wp2_with fail
        go_roundw
        case rel => exact ⟨j + 1, by omega, by go_num, HTT, B1⟩
        case measure => simp [intOf]; omega
    · have hlt' : (n : Int) ≤ (j : Int) := by omega
      have HALL : Hid (C.any (fun c => c.word == t.text) = false) := by
        show _ = _
        have := HJ.out
        rwa [List.take_of_length_le (by have := HN.out; omega)] at this
      go_wp2_with fail
      go_ret
      refine ⟨⟨_, rfl, ?_⟩, hb⟩
      rw [HALL.out]
      decide
set_option maxHeartbeats 2000000 in
theorem containsFunc_any {R : World → Cla → Value → Prop} (hR : ∀ w c u, R w c u → ∃ o n m, u = .slice o n m) (w : World) (v : Value) (C : List Cla) (h : NSl ClaE claV R w v C) (k : Nat) (t : Tok) (hk : w.heap[k]? = some (.cells (encT t) 90 (0, 0))) :
    Calls Tryd.prog 76 #[v, .func (.func 103) #[] #[.pointer (some ⟨k, 0, none⟩)]] w fun e w' => e = .returned (.bool (C.any (fun c => c.word == t.text))) ∧ Below w.heap.size w w' := by
  have C1 : Hid (Calls Tryd.prog 96 #[v, .func (.func 103) #[] #[.pointer (some ⟨k, 0, none⟩)]] w fun e w' => (∃ i : Int, e = .returned (.int .i64 i) ∧ ((decide (0 ≤ i)) = C.any (fun c => c.word == t.text))) ∧ Below w.heap.size w w') := indexFunc_any hR w v C h k t hk
  obtain ⟨b, hb⟩ : ∃ b, b = C.any (fun c => c.word == t.text) := ⟨_, rfl⟩
  rw [← hb] at C1 ⊢
  clear h hk hb
  go_enter Tryd.func76, Tryd.ntmps76
  go_wp2_with fail
  refine C1.out.mono ?_
  rintro e w1 ⟨⟨i, rfl, hi⟩, hb1⟩
  have HI : Hid (decide (0 ≤ i) = b) := hi
  clear hi
  go_wp2_with fail
  go_ret
  refine ⟨?_, hb1⟩
  rw [← HI.out]
  rfl
end Go.Proofs.YtfamnloobmdhdaaDoor
namespace Go.Proofs.YtfamnloobmdhdaaDoor
open Go
set_option maxRecDepth 20000

/-- A token but for its place. -/
def st (t : Tok) : Nat × List UInt8 × Nat := (t.kind, t.text, t.num)
abbrev St := Nat × List UInt8 × Nat
def Any (_ : List UInt8) : Prop := True
/-- Bytes that come to these tokens, ahead of what is fit. -/
def Lexes (X : List UInt8) (ts : List St) (ok : List UInt8 → Prop) : Prop := ∀ (p : Nat) (Y : List UInt8), ok Y → ∃ T, T.map st = ts ∧ lexW p (X ++ Y) = glue T (lexW (p + X.length) Y)
theorem Lexes.append {A B : List UInt8} {ta tb : List St} {okA okB : List UInt8 → Prop} (h1 : Lexes A ta okA) (h2 : Lexes B tb okB) (h : ∀ Y, okB Y → okA (B ++ Y)) : Lexes (A ++ B) (ta ++ tb) okB := by
  intro p Y hY
  obtain ⟨T1, e1, g1⟩ := h1 p (B ++ Y) (h Y hY)
  obtain ⟨T2, e2, g2⟩ := h2 (p + A.length) Y hY
  refine ⟨T1 ++ T2, by rw [List.map_append, e1, e2], ?_⟩
  rw [List.append_assoc, g1, g2, glue_glue, List.length_append, Nat.add_assoc]
theorem Lexes.nil (ok : List UInt8 → Prop) : Lexes [] [] ok := fun p Y _ => ⟨[], rfl, by rw [glue_nil]; rfl⟩
/-! Digits. -/
/-- A number that a text may hold. -/
def okF (x : Fig) : Prop := 0 ≤ x.n ∧ x.n ≤ 4294967295
end Go.Proofs.YtfamnloobmdhdaaDoor
