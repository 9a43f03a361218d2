import Derived.Test.YtplnlmkmaapbaaaDoorSpRange
import Derived.Test.YtplnlmkmaapbaaaDoorOwnC
namespace Go.Proofs.YtplnlmkmaapbaaaDoor
open Go Go.RowKit

/-- The cells of a list of pieces. -/
def pcells (P : List (Nat × Nat)) : List Value := P.flatMap fun p => (pv (p.1 : Int) (p.2 : Int)).toList
theorem pcells_append (P Q : List (Nat × Nat)) : pcells (P ++ Q) = pcells P ++ pcells Q := by simp [pcells]
theorem pcells_one (p : Nat × Nat) : pcells [p] = (pv (p.1 : Int) (p.2 : Int)).toList := by simp [pcells]
theorem pcells_len (P : List (Nat × Nat)) : (pcells P).length = P.length * 2 := by
  induction P with
  | nil => rfl
  | cons p P ih =>
    rw [show pcells (p :: P) = (pv (p.1 : Int) (p.2 : Int)).toList ++ pcells P by simp [pcells], List.length_append, ih, List.length_cons]
    simp; omega
theorem pcells_at : ∀ (P : List (Nat × Nat)) (i : Nat) (hi : i < P.length) (j : Nat), j < 2 → (pcells P)[2 * i + j]? = (pv (P[i].1 : Int) (P[i].2 : Int))[j]?
  | [], i, hi, _, _ => absurd hi (by simp)
  | p :: P, 0, _, j, hj => by
    rw [show pcells (p :: P) = (pv (p.1 : Int) (p.2 : Int)).toList ++ pcells P by simp [pcells], Nat.mul_zero, Nat.zero_add, List.getElem?_append_left (by simpa using hj)]
    simp
  | p :: P, i + 1, hi, j, hj => by
    have ih := pcells_at P i (by simpa using hi) j hj
    rw [show pcells (p :: P) = (pv (p.1 : Int) (p.2 : Int)).toList ++ pcells P by simp [pcells], show 2 * (i + 1) + j = 2 + (2 * i + j) by omega, List.getElem?_append_right (by simp)]
    simpa using ih

/-- A slice of one piece. -/
theorem wl_buildP {ops : Array Oper} {rest : List Oper} {o : Oper} {a : Act} {w : World} {Q : Exit → Act → World → Prop} (hg : o.guard = none) (x : Operand) (ho : o.op = .buildSlice 46 1 #[(0, x)]) (n b : Int) (hx : a.eval x = .agg (pv n b))
    (h : wpList Tryd.prog ops Q rest (a.put o.dst (.slice (some ⟨w.heap.size, 0, none⟩) 1 1)) (w.alloc (.cells (pv n b) 50))) : wpList Tryd.prog ops Q (o :: rest) a w := by
  obtain ⟨ie, hie, hz, hs, _⟩ := infoP
  refine wpList_buildSlice hg 46 50 1 _ ho (pv n b) ie (.agg (pv 0 0)) Tryd.underlying46 hie hz (by rw [hs]; decide) (by rw [hs]; decide) ?_ h
  simp only [List.map_toArray, List.map_cons, List.map_nil, hx, Instr.fill, hs, Nat.zero_mul, Value.cells]
  rw [if_neg (by simp)]
  congr 1
  exact fold_all _ _ (by simp)

/-- One piece appended to one's own row of them. -/
theorem wl_appendP {ops : Array Oper} {rest : List Oper} {o : Oper} {a : Act} {w : World} {Q : Exit → Act → World → Prop} (hgd : o.guard = none) (s x : Operand) (ho : o.op = .call { callee := .builtin .append, args := #[s, x], argTypes := #[46, 46] })
    (base : Nat) (v : Value) (P : List (Nat × Nat)) (p : Nat × Nat) (hs : a.eval s = v) (hown : w.ownsRow base 50 2 v P.length (pcells P)) (g cap : Nat) (hx : a.eval x = .slice (some ⟨g, 0, none⟩) 1 cap) (hg : w.heap[g]? = some (.cells (pv (p.1 : Int) (p.2 : Int)) 50 (0, 0)))
    (hn : P.length ≤ 1000000) (hbase : base ≤ w.heap.size)
    (h : ∀ v' w', w'.ownsRow base 50 2 v' (P ++ [p]).length (pcells (P ++ [p])) → w.grownBy w' v.ownBlock → wpList Tryd.prog ops Q rest (a.put o.dst v') w') : wpList Tryd.prog ops Q (o :: rest) a w := by
  obtain ⟨i0, hi, hz0, hz1, hz2⟩ := infoP
  refine wpList_append_own w hgd s x 46 ho base 50 i0 (.agg (pv 0 0)) 2 16 Tryd.underlying46 hi hz0 hz1 hz2 rfl (by decide) v _ _ hs hown ⟨g, 0, none⟩ 1 cap (pcells [p]) hx (by rw [pcells_len]; rfl) (fun j y hy => ?_) (fun u hu => ?_) (by unfold maxLen; omega) (by omega) hbase ?_
  · have hadd : (⟨g, 0, none⟩ : Addr).add j = ⟨g, j, none⟩ := by unfold Addr.add; split <;> simp_all
    rw [hadd, cell_of_row w g j _ _ _ hg, ← hy, pcells_one]
    simp
  · rw [pcells_one] at hu
    exact (Array.all_eq_true_iff_forall_mem.1 (oneP _ _)) u (by simpa using hu)
  · intro v' w' h5 h6 _
    refine h v' w' ?_ h6
    rw [List.length_append, pcells_append]; exact h5

/-- A slice, wherever it lies, whose elements are these pieces. -/
def Sp (w : World) (v : Value) (P : List (Nat × Nat)) : Prop :=
  ∃ (o : Option Addr) (cap : Nat), v = .slice o P.length cap ∧ P.length ≤ cap ∧ cap ≤ maxLen ∧ ∀ (i : Nat) (hi : i < P.length), ∃ g off cur t fr, o = some ⟨g, off, none⟩ ∧ w.heap[g]? = some (.cells cur t fr) ∧ ∀ j, j < 2 → cur[off + i * 2 + j]? = (pv (P[i].1 : Int) (P[i].2 : Int))[j]?
theorem Sp.below {w w' : World} {v : Value} {P : List (Nat × Nat)} (h : Sp w v P) (hb : Below w.heap.size w w') : Sp w' v P := by
  obtain ⟨o, cap, rfl, h1, h2, h3⟩ := h
  refine ⟨o, cap, rfl, h1, h2, fun i hi => ?_⟩
  obtain ⟨g, off, cur, t, fr, h4, h5, h6⟩ := h3 i hi
  exact ⟨g, off, cur, t, fr, h4, (hb.block g (Array.getElem?_eq_some_iff.1 h5).1).trans h5, h6⟩
theorem Sp.slice {w : World} {v : Value} {P : List (Nat × Nat)} (h : Sp w v P) : ∃ (o : Option Addr) (cap : Nat), v = .slice o P.length cap ∧ P.length ≤ cap ∧ cap ≤ maxLen := by
  obtain ⟨o, cap, h1, h2, h3, _⟩ := h
  exact ⟨o, cap, h1, h2, h3⟩
theorem Sp.at {w : World} {o : Option Addr} {n cap : Nat} {P : List (Nat × Nat)} (h : Sp w (.slice o n cap) P) (k : Nat) (hk : k < n) :
    ∃ g off cur t fr, ∃ p : Nat × Nat, o = some ⟨g, off, none⟩ ∧ w.heap[g]? = some (.cells cur t fr) ∧ (∀ j, j < 2 → cur[off + k * 2 + j]? = (pv (p.1 : Int) (p.2 : Int))[j]?) ∧ P[k]? = some p := by
  obtain ⟨o', cap', h1, _, _, h3⟩ := h
  simp only [Value.slice.injEq] at h1
  obtain ⟨rfl, rfl, rfl⟩ := h1
  obtain ⟨g, off, cur, t, fr, h4, h5, h6⟩ := h3 k hk
  exact ⟨g, off, cur, t, fr, P[k], h4, h5, h6, List.getElem?_eq_getElem hk⟩
theorem sp_of {w : World} {B : Nat} {v : Value} {P : List (Nat × Nat)} (h : w.ownsRow B 50 2 v P.length (pcells P)) : Sp w v P := by
  obtain ⟨h1, ⟨rfl, h2⟩ | ⟨g, cap, cur, rfl, hB, hcur, h5, h6, _, h4⟩⟩ := h
  · exact ⟨none, 0, by rw [h2], by omega, Nat.zero_le _, fun i hi => by omega⟩
  · refine ⟨_, cap, rfl, h5, h6, fun i hi => ⟨g, 0, cur, _, _, rfl, hcur, fun j hj => ?_⟩⟩
    rw [← pcells_at P i hi j hj, ← h4, List.getElem?_take_of_lt (by omega), Nat.zero_add, Nat.mul_comm]
    simp

theorem qlP {W : World} {ops : Array Oper} {Q : Act → Prop} {rest : List Oper} {o : Oper} {a : Act} (hw : Region.wanted o (yielded ops a.tmps) = true) (x : Operand) (ho : o.op = .load 50 x)
    (g off : Nat) (hx : a.eval x = .pointer (some ⟨g, off, none⟩)) (cs : Array Value) (t : TypeId) (fr : Nat × Nat) (n b : Int) (hg : W.heap[g]? = some (.cells cs t fr)) (hc : ∀ j, j < 2 → cs[off + j]? = (pv n b)[j]?)
    (h : wpQuiet Tryd.prog ops (fun w' => ∃ u : Later W, w' = u.world) Q rest (a.put o.dst (.agg (pv n b)))) : wpQuiet Tryd.prog ops (fun w' => ∃ u : Later W, w' = u.world) Q (o :: rest) a := by
  refine BigFrame.wpQuiet_want hw fun K hK => ⟨.agg (pv n b), fun w hC => ?_, hK _ h⟩
  unfold Oper.quietAt execOp
  simp only [ho, hx, Instr.loadAt, Instr.sureAddr, Sem.run_bind, Sem.run_pure, Result.andThen_ok, load_piece w g off cs t fr n b (later_block hg w hC) hc]
  exact ⟨rfl, rfl⟩
end Go.Proofs.YtplnlmkmaapbaaaDoor
