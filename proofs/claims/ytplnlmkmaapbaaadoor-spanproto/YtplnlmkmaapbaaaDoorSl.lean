import Derived.Test.YtplnlmkmaapbaaaDoorSame
namespace Go.Proofs.YtplnlmkmaapbaaaDoor
open Go Go.RowKit

/-- Has one of these cubes a header? -/
def hasL (C : List (List Int × List Int)) (H : List Int) : Bool := C.any fun c => has c.1 c.2 H

/-- A slice, wherever it lies, whose elements are these cubes. -/
def Sl (w : World) (v : Value) (C : List (List Int × List Int)) : Prop :=
  Byts C ∧ ∃ (o : Option Addr) (cap : Nat), v = .slice o C.length cap ∧ C.length ≤ cap ∧ cap ≤ maxLen ∧ ∀ (i : Nat) (hi : i < C.length), ∃ g off cur t fr, o = some ⟨g, off, none⟩ ∧ w.heap[g]? = some (.cells cur t fr) ∧ ∀ j, j < 26 → cur[off + i * 26 + j]? = (cv C[i].1 C[i].2)[j]?

theorem Sl.byts {w : World} {v : Value} {C : List (List Int × List Int)} (h : Sl w v C) : Byts C := h.1
theorem Sl.below {w w' : World} {v : Value} {C : List (List Int × List Int)} (h : Sl w v C) (hb : Below w.heap.size w w') : Sl w' v C := by
  obtain ⟨h0, o, cap, rfl, h1, h2, h3⟩ := h
  refine ⟨h0, o, cap, rfl, h1, h2, fun i hi => ?_⟩
  obtain ⟨g, off, cur, t, fr, h4, h5, h6⟩ := h3 i hi
  exact ⟨g, off, cur, t, fr, h4, (hb.block g (Array.getElem?_eq_some_iff.1 h5).1).trans h5, h6⟩
/-- The same, but that blocks from a place on may have turned. -/
theorem Sl.belowAt {w w' : World} {v : Value} {C : List (List Int × List Int)} {B : Nat} (h : Sl w v C) (hw : w.heap.size ≤ B) (hb : Below B w w') : Sl w' v C := h.below (hb.mono hw)
theorem Sl.slice {w : World} {v : Value} {C : List (List Int × List Int)} (h : Sl w v C) : ∃ (o : Option Addr) (cap : Nat), v = .slice o C.length cap ∧ C.length ≤ cap ∧ cap ≤ maxLen := by
  obtain ⟨_, o, cap, h1, h2, h3, _⟩ := h
  exact ⟨o, cap, h1, h2, h3⟩
/-- One element. -/
theorem Sl.at {w : World} {o : Option Addr} {n cap : Nat} {C : List (List Int × List Int)} (h : Sl w (.slice o n cap) C) (k : Nat) (hk : k < n) :
    ∃ g off cur t fr U N, o = some ⟨g, off, none⟩ ∧ w.heap[g]? = some (.cells cur t fr) ∧ (∀ j, j < 26 → cur[off + k * 26 + j]? = (cv U N)[j]?) ∧ C[k]? = some (U, N) ∧ Byt U ∧ Byt N := by
  obtain ⟨h0, o', cap', h1, _, _, h3⟩ := h
  simp only [Value.slice.injEq] at h1
  obtain ⟨rfl, rfl, rfl⟩ := h1
  obtain ⟨g, off, cur, t, fr, h4, h5, h6⟩ := h3 k hk
  exact ⟨g, off, cur, t, fr, C[k].1, C[k].2, h4, h5, h6, List.getElem?_eq_getElem hk, (h0 _ (List.getElem_mem _)).1, (h0 _ (List.getElem_mem _)).2⟩
theorem Sl.len {w : World} {o : Option Addr} {n cap : Nat} {C : List (List Int × List Int)} (h : Sl w (.slice o n cap) C) : n = C.length ∧ n ≤ cap ∧ cap ≤ maxLen := by
  obtain ⟨h0, o', cap', h1, h2, h3, _⟩ := h
  simp only [Value.slice.injEq] at h1
  obtain ⟨rfl, rfl, rfl⟩ := h1
  exact ⟨rfl, h2, h3⟩
/-- The first ones of a slice. -/
theorem Sl.take {w : World} {o : Option Addr} {n cap : Nat} {C : List (List Int × List Int)} (h : Sl w (.slice o n cap) C) (k : Nat) (hk : k ≤ n) : Sl w (.slice o k cap) (C.take k) := by
  obtain ⟨h0, o', cap', h1, h2, h3, h4⟩ := h
  simp only [Value.slice.injEq] at h1
  obtain ⟨rfl, rfl, rfl⟩ := h1
  have e : (C.take k).length = k := by rw [List.length_take]; omega
  refine ⟨fun c hc => h0 c (List.mem_of_mem_take hc), o, cap, by rw [e], by omega, h3, fun i hi => ?_⟩
  obtain ⟨g, off, cur, t, fr, h5, h6, h7⟩ := h4 i (by omega)
  exact ⟨g, off, cur, t, fr, h5, h6, fun j hj => by rw [h7 j hj, List.getElem_take]⟩
theorem sl_of {w : World} {B : Nat} {v : Value} {C : List (List Int × List Int)} (h : w.ownsRow B 37 26 v C.length (ccells C)) (hC : Byts C) : Sl w v C := by
  refine ⟨hC, ?_⟩
  obtain ⟨h1, ⟨rfl, h2⟩ | ⟨g, cap, cur, rfl, hB, hcur, h5, h6, _, h4⟩⟩ := h
  · exact ⟨none, 0, by rw [h2], by omega, Nat.zero_le _, fun i hi => by omega⟩
  · refine ⟨_, cap, rfl, h5, h6, fun i hi => ⟨g, 0, cur, _, _, rfl, hcur, fun j hj => ?_⟩⟩
    rw [← ccells_at C hC i hi j hj, ← h4, List.getElem?_take_of_lt (by omega), Nat.zero_add, Nat.mul_comm]
    simp

theorem qlSl {W : World} {ops : Array Oper} {Q : Act → Prop} {rest : List Oper} {o : Oper} {a : Act} (hw : Region.wanted o (yielded ops a.tmps) = true) (x : Operand) (ho : o.op = .load 37 x)
    (g off : Nat) (hx : a.eval x = .pointer (some ⟨g, off, none⟩)) (cs : Array Value) (t : TypeId) (fr : Nat × Nat) (V M : List Int) (hV : V.length = 13) (hM : M.length = 13) (hg : W.heap[g]? = some (.cells cs t fr)) (hc : ∀ j, j < 26 → cs[off + j]? = (cv V M)[j]?)
    (h : wpQuiet Tryd.prog ops (fun w' => ∃ u : Later W, w' = u.world) Q rest (a.put o.dst (.agg (cv V M)))) : wpQuiet Tryd.prog ops (fun w' => ∃ u : Later W, w' = u.world) Q (o :: rest) a := by
  refine BigFrame.wpQuiet_want hw fun K hK => ⟨.agg (cv V M), fun w hC => ?_, hK _ h⟩
  unfold Oper.quietAt execOp
  simp only [ho, hx, Instr.loadAt, Instr.sureAddr, Sem.run_bind, Sem.run_pure, Result.andThen_ok, load_cube w g off cs t fr V M hV hM (later_block hg w hC) hc]
  exact ⟨rfl, rfl⟩

theorem hasL_at {C : List (List Int × List Int)} {H U N : List Int} {k : Nat} (hk : C[k]? = some (U, N)) (h : has U N H = true) : hasL C H = true := by
  unfold hasL
  rw [List.any_eq_true]
  exact ⟨(U, N), List.mem_of_getElem? hk, h⟩
theorem hasL_take {C : List (List Int × List Int)} {H U N : List Int} {k : Nat} (hk : C[k]? = some (U, N)) (h : has U N H = false) (hp : hasL (C.take k) H = false) : hasL (C.take (k + 1)) H = false := by
  unfold hasL at *
  rw [List.take_add_one, hk, List.any_append, hp]
  simp [h]
end Go.Proofs.YtplnlmkmaapbaaaDoor
