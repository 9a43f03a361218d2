import Derived.Test.YtbhnjhiecoapbaaJ1
import Derived.Test.YtbhnjhiecoapbaaJ5
import Derived.Laws.AppendOwn
import Derived.Laws.OwnMore
import Derived.Laws.AppendOwnNone
import Derived.Maps.AppendAt
import Derived.OwnWalk
import Derived.Lib.Hide
namespace Go.Proofs.Ytbhnjhiecoapbaa
open Go Go.RowKit
set_option maxRecDepth 20000

/-! Slices whose elements are one cell each: numbers, floats, truths. -/
def StopV (p : Prop) : Prop := p
theorem of_stopV {p : Prop} (h : StopV p) : p := h
theorem add_formV (g off j : Nat) : (⟨g, off, none⟩ : Addr).add j = ⟨g, off + j, none⟩ := by unfold Addr.add; split <;> simp_all
/-- Cells, wherever they lie. -/
def VSl (w : World) (v : Value) (L : List Value) : Prop :=
  ∃ (o : Option Addr) (cap : Nat), v = .slice o L.length cap ∧ L.length ≤ cap ∧ cap ≤ maxLen ∧ (o = none → cap = 0) ∧ ∀ (i : Nat) (hi : i < L.length), ∃ g off cur t fr, o = some ⟨g, off, none⟩ ∧ w.heap[g]? = some (.cells cur t fr) ∧ cur[off + i]? = some L[i]
theorem VSl.of_heap {w w' : World} {v : Value} {L : List Value} (h : VSl w v L) (hb : ∀ g o, w.heap[g]? = some o → v.ownBlock = some g → w'.heap[g]? = some o) : VSl w' v L := by
  obtain ⟨o, cap, rfl, h1, h2, h3, h4⟩ := h
  refine ⟨o, cap, rfl, h1, h2, h3, fun i hi => ?_⟩
  obtain ⟨g, off, cur, t, fr, rfl, h5, h6⟩ := h4 i hi
  exact ⟨g, off, cur, t, fr, rfl, hb _ _ h5 rfl, h6⟩
theorem VSl.below {w w' : World} {v : Value} {L : List Value} (h : VSl w v L) (hb : Below w.heap.size w w') : VSl w' v L :=
  h.of_heap fun g _ hg _ => (hb.block g (Array.getElem?_eq_some_iff.1 hg).1).trans hg
theorem VSl.alloc {w : World} {v : Value} {L : List Value} (h : VSl w v L) (x : Obj) : VSl (w.alloc x) v L :=
  h.of_heap fun _ _ hg _ => heap_past _ _ _ _ hg
theorem VSl.slice {w : World} {v : Value} {L : List Value} (h : VSl w v L) : ∃ o cap, v = .slice o L.length cap ∧ L.length ≤ cap ∧ cap ≤ maxLen := by
  obtain ⟨o, cap, rfl, h1, h2, _⟩ := h
  exact ⟨o, cap, rfl, h1, h2⟩
theorem VSl.len {w : World} {o : Option Addr} {n cap : Nat} {L : List Value} (h : VSl w (.slice o n cap) L) : n = L.length := by
  obtain ⟨o', cap', h1, _⟩ := h
  simp only [Value.slice.injEq] at h1
  exact h1.2.1
theorem VSl.at {w : World} {o : Option Addr} {n cap : Nat} {L : List Value} (h : VSl w (.slice o n cap) L) (k : Nat) (hk : k < n) :
    ∃ g off c, o = some ⟨g, off, none⟩ ∧ w.cell? ⟨g, off + k, none⟩ = some c ∧ L[k]? = some c := by
  obtain ⟨o', cap', h1, _, _, _, h3⟩ := h
  simp only [Value.slice.injEq] at h1
  obtain ⟨rfl, rfl, rfl⟩ := h1
  obtain ⟨g, off, cur, t, fr, h4, h5, h6⟩ := h3 k hk
  exact ⟨g, off, L[k], h4, by rw [cell_of_row _ _ _ _ _ _ h5]; exact h6, List.getElem?_eq_getElem hk⟩
theorem VSl.row {w : World} {o : Option Addr} {n cap : Nat} {L : List Value} (h : VSl w (.slice o n cap) L) (k : Nat) (hk : k < n) :
    ∃ g off c, o = some ⟨g, off, none⟩ ∧ (∃ cur t fr, w.heap[g]? = some (.cells cur t fr) ∧ cur[off + k]? = some c) ∧ L[k]? = some c := by
  obtain ⟨o', cap', h1, _, _, _, h3⟩ := h
  simp only [Value.slice.injEq] at h1
  obtain ⟨rfl, rfl, rfl⟩ := h1
  obtain ⟨g, off, cur, t, fr, h4, h5, h6⟩ := h3 k hk
  exact ⟨g, off, L[k], h4, ⟨cur, t, fr, h5, h6⟩, List.getElem?_eq_getElem hk⟩
/-- The first of it. -/
theorem VSl.front {w : World} {o : Option Addr} {n cap : Nat} {L : List Value} (h : VSl w (.slice o n cap) L) (q : Nat) (hq : q ≤ n) : VSl w (.slice o q cap) (L.take q) := by
  have hn := h.len
  obtain ⟨o', cap0, h1, h2, h3, h4, h5⟩ := h
  simp only [Value.slice.injEq] at h1
  obtain ⟨rfl, rfl, rfl⟩ := h1
  have hl : (L.take q).length = q := by simp; omega
  refine ⟨o, cap, by rw [hl], by omega, h3, h4, fun i hi => ?_⟩
  rw [hl] at hi
  obtain ⟨g', off', cur, t, fr, e, h6, h7⟩ := h5 i (by omega)
  refine ⟨g', off', cur, t, fr, e, h6, ?_⟩
  rw [h7]
  simp [List.getElem_take]
theorem vsl_nil (w : World) : VSl w (.slice none 0 0) [] := ⟨none, 0, rfl, Nat.le_refl _, Nat.zero_le _, fun _ => rfl, fun i hi => absurd hi (by simp)⟩

/-- Cells of one's own. -/
def VOwn (ty : TypeId) (B : Nat) (w : World) (v : Value) (L : List Value) : Prop := w.ownsRow B ty 1 v L.length L
theorem VOwn.sl {ty : TypeId} {B : Nat} {w : World} {v : Value} {L : List Value} (h : VOwn ty B w v L) : VSl w v L := by
  obtain ⟨h1, ⟨rfl, h2⟩ | ⟨g, cap, cur, rfl, hB, hcur, h5, h6, _, h4⟩⟩ := h
  · exact ⟨none, 0, by rw [h2], by omega, Nat.zero_le _, fun _ => rfl, fun i hi => by omega⟩
  · refine ⟨_, cap, rfl, h5, h6, (fun e => by cases e), fun i hi => ⟨g, 0, cur, _, _, rfl, hcur, ?_⟩⟩
    have h7 := congrArg (·[i]?) h4
    rw [Nat.mul_one, List.getElem?_take_of_lt hi, List.getElem?_eq_getElem hi] at h7
    rw [Nat.zero_add]
    simpa using h7
theorem VOwn.nil (ty B : Nat) (w : World) : VOwn ty B w (.slice none 0 0) [] := World.ownsRow_nil _ _ _ _
theorem VOwn.base {ty B B' : Nat} {w : World} {v : Value} {L : List Value} (h : VOwn ty B w v L) (hB : B' ≤ B) : VOwn ty B' w v L := by
  obtain ⟨h1, h2 | ⟨g', cap, cur, rfl, hB, h3⟩⟩ := h
  · exact ⟨h1, .inl h2⟩
  · exact ⟨h1, .inr ⟨g', cap, cur, rfl, by omega, h3⟩⟩
theorem VOwn.below {ty B : Nat} {w w' : World} {v : Value} {L : List Value} (h : VOwn ty B w v L) (hb : Below w.heap.size w w') : VOwn ty B w' v L := by
  obtain ⟨h1, h2 | ⟨g, cap, cur, rfl, hB, hcur, h3⟩⟩ := h
  · exact ⟨h1, .inl h2⟩
  · exact ⟨h1, .inr ⟨g, cap, cur, rfl, hB, (hb.block g (Array.getElem?_eq_some_iff.1 hcur).1).trans hcur, h3⟩⟩
theorem VOwn.grown {ty B : Nat} {w w' : World} {v : Value} {L : List Value} (h : VOwn ty B w v L) {row : Option Nat} (hg : w.grownBy w' row) (hne : ∀ g, v.ownBlock = some g → row ≠ some g) : VOwn ty B w' v L := by
  obtain ⟨h1, h2 | ⟨g, cap, cur, rfl, hB, hcur, h3⟩⟩ := h
  · exact ⟨h1, .inl h2⟩
  · exact ⟨h1, .inr ⟨g, cap, cur, rfl, hB, (hg.block g (Array.getElem?_eq_some_iff.1 hcur).1 fun e => hne g rfl e.symm).trans hcur, h3⟩⟩
theorem VOwn.ge {ty B : Nat} {w : World} {v : Value} {L : List Value} (h : VOwn ty B w v L) : ∀ g, v.ownBlock = some g → B ≤ g ∧ g < w.heap.size := fun g hg => World.ownsRow.lt h g hg
theorem VOwn.set {ty B : Nat} {w : World} {g n cap : Nat} {L : List Value} (h : VOwn ty B w (.slice (some ⟨g, 0, none⟩) n cap) L) (k : Nat) (u : Value) : VOwn ty B (w.setCell ⟨g, k, none⟩ u) (.slice (some ⟨g, 0, none⟩) n cap) (L.set k u) := by
  have hn := h.sl.len
  subst hn
  have := (World.ownsRow.stored h k u).1
  unfold VOwn
  rw [List.length_set]
  exact this
theorem VOwn.setBelow {ty B : Nat} {w : World} {g n cap : Nat} {L : List Value} (h : VOwn ty B w (.slice (some ⟨g, 0, none⟩) n cap) L) (k : Nat) (u : Value) : w.grownBy (w.setCell ⟨g, k, none⟩ u) (some g) := by
  have hn := h.sl.len
  subst hn
  exact (World.ownsRow.stored h k u).2
theorem VOwn.cell {ty B : Nat} {w : World} {g n cap : Nat} {L : List Value} (h : VOwn ty B w (.slice (some ⟨g, 0, none⟩) n cap) L) (k : Nat) (hk : k < n) : ∃ c, w.cell? ⟨g, k, none⟩ = some c ∧ L[k]? = some c ∧ w.frozen? ⟨g, k, none⟩ = false := by
  have hn := h.sl.len
  subst hn
  obtain ⟨g', off, c, e, h1, h2⟩ := h.sl.at k hk
  simp only [Option.some.injEq, Addr.mk.injEq, and_true] at e
  obtain ⟨rfl, rfl⟩ := e
  rw [Nat.zero_add] at h1
  obtain ⟨_, ⟨e, _⟩ | ⟨g', cap', cur, e, hB, hcur, _⟩⟩ := h
  · cases e
  · simp only [Value.slice.injEq, Option.some.injEq, Addr.mk.injEq, and_true] at e
    obtain ⟨⟨rfl, _⟩, _⟩ := e
    exact ⟨c, h1, h2, by simp [World.frozen?, hcur]⟩

/-- What is asked of an element's type. -/
structure Sc (ty sl : TypeId) (z : Value) : Prop where
  hs : Try.prog.underlying sl = some (.slice ty)
  info : ∃ i b, Try.prog.info? ty = some i ∧ i.zero = some z ∧ i.size = 1 ∧ i.bytes = b ∧ 1 ≤ b ∧ b ≤ 8
  hz : z.cells = #[z]
theorem info_of {ty : TypeId} {z : Value} {b : Nat} (h : (Try.prog.info? ty).map (fun i => (i.zero, i.size, i.bytes)) = some (some z, 1, b)) (h1 : 1 ≤ b) (h8 : b ≤ 8) : ∃ i b, Try.prog.info? ty = some i ∧ i.zero = some z ∧ i.size = 1 ∧ i.bytes = b ∧ 1 ≤ b ∧ b ≤ 8 := by
  cases hi : Try.prog.info? ty with
  | none => rw [hi] at h; simp at h
  | some i =>
    rw [hi] at h
    simp only [Option.map_some, Option.some.injEq, Prod.mk.injEq] at h
    exact ⟨i, b, rfl, h.1, h.2.1, h.2.2, h1, h8⟩
theorem scI : Sc 3 65 (.int .i64 0) := ⟨Try.underlying65, info_of (b := 8) (by kernel_rfl) (by decide) (by decide), rfl⟩
/-- So many noughts. -/
theorem wl_makeV {ty sl : TypeId} {z : Value} (S : Sc ty sl z) {ops : Array Oper} {rest : List Oper} {o : Oper} {a : Act} {w : World} {Q : Exit → Act → World → Prop} (hgd : o.guard = none) (x y : Operand) (ho : o.op = .makeSlice sl x y)
    (n : Nat) (hx : a.eval x = .int .i64 (n : Int)) (hy : a.eval y = .int .i64 (n : Int)) (hn : n ≤ 1000000)
    (h : ∀ w', VOwn ty w.heap.size w' (.slice (some ⟨w.heap.size, 0, none⟩) n n) (List.replicate n z) → Below w.heap.size w w' → wpList Try.prog ops Q rest (a.put o.dst (.slice (some ⟨w.heap.size, 0, none⟩) n n)) w') : wpList Try.prog ops Q (o :: rest) a w := by
  obtain ⟨i, b, hi, hz, h1, h2, h3, h4⟩ := S.info
  refine wpList_plain hgd fun K hK => ?_
  obtain ⟨w', hr, hown, hgr⟩ := run_make_full (P := Try.prog) w w.heap.size sl ty i z 1 S.hs hi hz h1 .i64 .i64 n (by rw [h2]; have := Nat.mul_le_mul h4 hn; omega) (by unfold maxLen; omega) (Nat.le_refl _)
  unfold Oper.wp execOp
  simp only [ho, hx, hy, hr, Sem.run_bind, Sem.run_pure, Result.andThen_ok]
  refine hK _ _ (h w' ?_ ((Below.refl _ _).grown hgr (Nat.le_refl _) fun k hk => by cases hk))
  unfold VOwn
  rw [List.length_replicate]
  have e : List.replicate n z = (madeCells z.cells (n * 1)).toList := by
    rw [S.hz, toList_madeCells_one, Nat.mul_one]
  rw [e]
  exact hown
/-- No element. -/
theorem wl_build0V {ty sl : TypeId} {z : Value} (S : Sc ty sl z) {ops : Array Oper} {rest : List Oper} {o : Oper} {a : Act} {w : World} {Q : Exit → Act → World → Prop} (hg : o.guard = none) (ho : o.op = .buildSlice sl 0 #[])
    (h : wpList Try.prog ops Q rest (a.put o.dst (.slice (some ⟨w.heap.size, 0, none⟩) 0 0)) (w.alloc (.cells #[] ty))) : wpList Try.prog ops Q (o :: rest) a w := by
  obtain ⟨ie, b, hie, hz, hs, _⟩ := S.info
  refine wpList_plain hg fun _ hK => ?_
  unfold Oper.wp execOp
  have hrun : (Instr.buildSlice sl 0 #[]).run Try.prog w = .ok (.slice (some ⟨w.heap.size, 0, none⟩) 0 0) (w.alloc (.cells #[] ty)) := by
    have h0 : Array.range 0 = #[] := Array.eq_empty_of_size_eq_zero (by simp)
    simp [Instr.buildSlice, run_underlying S.hs, sizeOf, typeInfo, hie, Instr.fill, newRow, h0]
  simp only [ho, Sem.run_bind, List.map_toArray, List.map_nil, hrun, Result.andThen_ok]
  exact hK _ _ h
theorem vown0 (w : World) (ty : TypeId) : VOwn ty w.heap.size (w.alloc (.cells #[] ty)) (.slice (some ⟨w.heap.size, 0, none⟩) 0 0) [] := ⟨by simp, .inr ⟨_, 0, #[], rfl, Nat.le_refl _, heap_new _ _ _ rfl, Nat.le_refl _, Nat.zero_le _, by simp, by simp⟩⟩
/-- One element. -/
theorem wl_build1V {ty sl : TypeId} {z : Value} (S : Sc ty sl z) {ops : Array Oper} {rest : List Oper} {o : Oper} {a : Act} {w : World} {Q : Exit → Act → World → Prop} (hg : o.guard = none) (x : Operand) (ho : o.op = .buildSlice sl 1 #[(0, x)]) (u : Value) (hu : u.cells = #[u]) (hx : a.eval x = u)
    (h : wpList Try.prog ops Q rest (a.put o.dst (.slice (some ⟨w.heap.size, 0, none⟩) 1 1)) (w.alloc (.cells #[u] ty))) : wpList Try.prog ops Q (o :: rest) a w := by
  obtain ⟨ie, b, hie, hz, hs, hb, hb1, hb8⟩ := S.info
  refine wpList_buildSlice hg sl ty 1 _ ho #[u] ie z S.hs hie hz (by rw [hs]; decide) (by rw [hs]; decide) ?_ h
  simp only [List.map_toArray, List.map_cons, List.map_nil, hx, Instr.fill, hs, Nat.zero_mul, hu]
  rw [if_neg (by simp)]
  congr 1
  exact gfold_all _ _ (by simp)
/-- One element appended to a row of one's own. -/
theorem wl_app1V {ty sl : TypeId} {z : Value} (S : Sc ty sl z) {ops : Array Oper} {rest : List Oper} {o : Oper} {a : Act} {w : World} {Q : Exit → Act → World → Prop} (hgd : o.guard = none) (s x : Operand) (ho : o.op = .call { callee := .builtin .append, args := #[s, x], argTypes := #[sl, sl] })
    (B : Nat) (v : Value) (L : List Value) (u : Value) (hu : u.oneCell' = true) (hs : a.eval s = v) (hb : VOwn ty B w v L) (g cap : Nat) (hx : a.eval x = .slice (some ⟨g, 0, none⟩) 1 cap) (hg : w.heap[g]? = some (.cells #[u] ty (0, 0))) (hn : L.length ≤ 1000000) (hB : B ≤ w.heap.size)
    (h : ∀ v' w', VOwn ty B w' v' (L ++ [u]) → w.grownBy w' v.ownBlock → (v'.ownBlock = v.ownBlock ∨ v'.ownBlock = some w.heap.size) → wpList Try.prog ops Q rest (a.put o.dst v') w') : wpList Try.prog ops Q (o :: rest) a w := by
  obtain ⟨i, b, hi, hz, h1, h2, h3, h4⟩ := S.info
  refine wpList_append_own_at _ hgd s x sl ho B ty i z 1 b S.hs hi hz h1 h2 (by rw [S.hz]; rfl) (by decide) v _ _ hs hb ⟨g, 0, none⟩ 1 cap [u] hx rfl (fun j y hy => ?_) (fun y hy => ?_) (by unfold maxLen; omega) ?_ hB ?_
  · rw [add_formV, cell_of_row w g _ _ _ _ hg, ← hy, Nat.zero_add]
    simp
  · obtain rfl : y = u := by simpa using hy
    exact hu
  · exact Nat.le_trans (Nat.mul_le_mul (show L.length + 1 ≤ 1000001 by omega) h4) (by decide)
  · intro v' w' h5 h6 _ h7
    refine h v' w' ?_ h6 h7
    unfold VOwn
    rw [List.length_append]; exact h5
end Go.Proofs.Ytbhnjhiecoapbaa
