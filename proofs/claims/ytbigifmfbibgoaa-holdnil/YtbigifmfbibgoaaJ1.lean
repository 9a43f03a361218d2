import Derived.Test.YtbigifmfbibgoaaRows
import Derived.Test.YtbigifmfbibgoaaProg
import Derived.ProofKit
import Derived.OpenShut
import Derived.Carry
import Derived.WalkKit
import Derived.WalkSpells
import Derived.WalkLawsBesides
import Derived.BigQuiet
import Derived.KernelRfl
import Derived.Laws.StructEq
import Derived.Laws.Tables
import Derived.Laws.Rows
import Derived.Great.BuildSlice
import Derived.Laws.AppendOwn
import Derived.Laws.OwnMore
import Derived.Maps.AppendAt
import Derived.OwnWalk
import Derived.Lib.Bytealg
import Derived.Lib.UnsafeStr
import Derived.Lib.BufferWrite
import Derived.Laws.MakeOwn
namespace Go.Proofs.Ytbigifmfbibgoaa
open Go.ChangeShapes Go.WideShapes Go.ChangeAt Go.WideMaps Go.WideElems Go.RowKit
set_option maxRecDepth 20000

theorem ownK : ownKnob Try.prog.godebug = none := by kernel_rfl
theorem laidK : laidOutB Try.prog = true := by kernel_rfl
end Go.Proofs.Ytbigifmfbibgoaa
namespace Go.Proofs.Ytbigifmfbibgoaa
open Go Go.RowKit
set_option maxRecDepth 20000

theorem ret_bool {a b : Bool} (h : a = b) : Ending.returned (.bool a) = .returned (.bool b) := by rw [h]
def hv (L : List Int) : Array Value := (L.map (Value.int .u8)).toArray
structure Later (W : World) where
  world : World
  below : Below W.heap.size W world

theorem setRow_new (w : World) (old cs : Array Value) (t : TypeId) (g : Nat) (hg : g = w.heap.size) : (w.alloc (.cells old t)).setRow g cs = w.alloc (.cells cs t) := by
  subst hg
  simp only [World.setRow, World.alloc]
  congr 1
  apply Array.ext
  · simp
  · intro k h1 h2
    simp only [Array.getElem_modify, Array.getElem_push]
    by_cases hk : k < w.heap.size
    · simp [hk, show ¬ w.heap.size = k by omega]
    · have : w.heap.size = k := by simp at h2; omega
      simp [this]

theorem heap_new (w : World) (o : Obj) (g : Nat) (hg : g = w.heap.size) : (w.alloc o).heap[g]? = some o := by rw [hg]; exact heap_alloc_new w o
end Go.Proofs.Ytbigifmfbibgoaa
namespace Go.Proofs.Ytbigifmfbibgoaa
open Go Go.RowKit
set_option maxRecDepth 20000

/-- A type of elements that are structs or arrays, and the type of its slices. -/
structure El where
  elem : TypeId
  slice : TypeId
  size : Nat
  bytes : Nat
  zero : Array Value
/-- What the program says of it. -/
structure El.Ok (E : El) : Prop where
  hs : Try.prog.underlying E.slice = some (.slice E.elem)
  hu : ∃ d, Try.prog.underlying E.elem = some d ∧ (match d with | .struct _ | .array _ _ => true | _ => false) = true
  hi : (Try.prog.info? E.elem).map (fun i => (i.zero, i.size, i.bytes)) = some (some (.agg E.zero), E.size, E.bytes)
  hz : E.zero.size = E.size
  hp : 0 < E.size
  hb : E.bytes ≤ 100000
  hn : E.size ≤ 100000
theorem El.Ok.info {E : El} (H : E.Ok) : ∃ i, Try.prog.info? E.elem = some i ∧ i.zero = some (.agg E.zero) ∧ i.size = E.size ∧ i.bytes = E.bytes := by
  have h1 := H.hi
  cases h : Try.prog.info? E.elem with
  | none => rw [h] at h1; simp at h1
  | some i =>
    rw [h] at h1
    simp only [Option.map_some, Option.some.injEq, Prod.mk.injEq] at h1
    exact ⟨i, rfl, h1.1, h1.2.1, h1.2.2⟩
theorem El.Ok.cellsz {E : El} (H : E.Ok) (cs : Array Value) (hc : cs.size = E.size) : (Try.prog.info? E.elem).map (·.size) = some cs.size := by
  obtain ⟨i, h1, _, h2, _⟩ := H.info
  rw [h1, Option.map_some, h2, hc]

/-- A value that is laid in cells, one each. -/
def Fits (E : El) (cs : Array Value) : Prop := cs.size = E.size ∧ cs.all (·.oneCell') = true

/-- An element that lies within a block, from a place on. -/
theorem El.Ok.load {E : El} (H : E.Ok) (w : World) (g off : Nat) (cur : Array Value) (t : TypeId) (fr : Nat × Nat) (cs : Array Value) (hcs : cs.size = E.size) (hg : w.heap[g]? = some (.cells cur t fr)) (hc : ∀ j, j < E.size → cur[off + j]? = cs[j]?) :
    (loadVar E.elem ⟨g, off, none⟩).run Try.prog w = .ok (.agg cs) w := by
  have hl : (loadCells ⟨g, off, none⟩ cs.toList.length).run Try.prog w = .ok cs.toList.toArray w :=
    run_loadCells_list (P := Try.prog) w ⟨g, off, none⟩ cs.toList (fun j v hv => by
      have hadd : (⟨g, off, none⟩ : Addr).add j = ⟨g, off + j, none⟩ := by unfold Addr.add; split <;> simp_all
      have hj : j < E.size := by
        have := (List.getElem?_eq_some_iff.1 hv).1
        rw [Array.length_toList] at this
        omega
      rw [hadd, cell_of_row w g (off + j) cur t fr hg, hc j hj]
      simpa using hv)
  obtain ⟨i, hq, _, hs, _⟩ := H.info
  have hagg : (isAgg E.elem).run Try.prog w = .ok true w := by
    obtain ⟨d, hd, hm⟩ := H.hu
    unfold isAgg
    rw [Sem.run_bind, run_underlying hd w]
    revert hm
    cases d <;> simp [go_sem]
  rw [Array.length_toList, hcs, Array.toArray_toList] at hl
  simp [loadVar, Sem.run_bind, hagg, sizeOf, typeInfo, hq, hs, hl]
theorem wl_loadE {E : El} (H : E.Ok) {ops : Array Oper} {rest : List Oper} {o : Oper} {a : Act} {w : World} {Q : Exit → Act → World → Prop} (hw : Region.wanted o (yielded ops a.tmps) = true) (x : Operand) (ho : o.op = .load E.elem x)
    (g off : Nat) (hx : a.eval x = .pointer (some ⟨g, off, none⟩)) (cur : Array Value) (t : TypeId) (fr : Nat × Nat) (cs : Array Value) (hcs : cs.size = E.size) (hg : w.heap[g]? = some (.cells cur t fr)) (hc : ∀ j, j < E.size → cur[off + j]? = cs[j]?)
    (h : wpList Try.prog ops Q rest (a.put o.dst (.agg cs)) w) : wpList Try.prog ops Q (o :: rest) a w := by
  refine wpList_step fun K hK => ?_
  rw [if_pos hw]
  unfold Oper.wp execOp
  simp only [ho, hx, Instr.loadAt, Instr.sureAddr, Sem.run_bind, Sem.run_pure, Result.andThen_ok, H.load w g off cur t fr cs hcs hg hc]
  exact hK _ _ h
theorem own_cells (n : Nat) (cs : Array Value) : ∀ j, j < n → cs[0 + j]? = cs[j]? := fun j _ => by rw [Nat.zero_add]
theorem wl_storeE {E : El} (H : E.Ok) {ops : Array Oper} {rest : List Oper} {o : Oper} {a : Act} {w : World} {Q : Exit → Act → World → Prop} (hgd : o.guard = none) (x y : Operand) (ho : o.op = .store E.elem x y)
    (g : Nat) (cs : Array Value) (hf : Fits E cs) (hx : a.eval x = .pointer (some ⟨g, 0, none⟩)) (hy : a.eval y = .agg cs) (old : Array Value) (hg : w.heap[g]? = some (.cells old E.elem (0, 0))) (hold : old.size = E.size)
    (w' : World) (hw' : w.setRow g cs = w')
    (h : wpList Try.prog ops Q rest (a.put o.dst undef) w') : wpList Try.prog ops Q (o :: rest) a w :=
  wpList_store_row hgd E.elem x y ho g cs hx hy E.elem old hg (H.cellsz cs hf.1) (by rw [hf.1, hold]) hf.2 (by rw [hw']; exact h)
theorem qlE {E : El} (H : E.Ok) {C : World → Prop} {ops : Array Oper} {Q : Act → Prop} {rest : List Oper} {o : Oper} {a : Act} (hw : Region.wanted o (yielded ops a.tmps) = true) (x : Operand) (ho : o.op = .load E.elem x)
    (g off : Nat) (hx : a.eval x = .pointer (some ⟨g, off, none⟩)) (cur : Array Value) (t : TypeId) (fr : Nat × Nat) (cs : Array Value) (hcs : cs.size = E.size) (hg : ∀ w', C w' → w'.heap[g]? = some (.cells cur t fr)) (hc : ∀ j, j < E.size → cur[off + j]? = cs[j]?)
    (h : wpQuiet Try.prog ops C Q rest (a.put o.dst (.agg cs))) : wpQuiet Try.prog ops C Q (o :: rest) a := by
  refine BigFrame.wpQuiet_want hw fun K hK => ⟨.agg cs, fun w hC => ?_, hK _ h⟩
  unfold Oper.quietAt execOp
  simp only [ho, hx, Instr.loadAt, Instr.sureAddr, Sem.run_bind, Sem.run_pure, Result.andThen_ok, H.load w g off cur t fr cs hcs (hg w hC) hc]
  exact ⟨rfl, rfl⟩

/-- The cells of a list of elements. -/
def gcells {α : Type} (enc : α → Array Value) (C : List α) : List Value := C.flatMap fun c => (enc c).toList
theorem gcells_append {α : Type} (enc : α → Array Value) (C D : List α) : gcells enc (C ++ D) = gcells enc C ++ gcells enc D := by simp [gcells]
theorem gcells_one {α : Type} (enc : α → Array Value) (c : α) : gcells enc [c] = (enc c).toList := by simp [gcells]
theorem gcells_cons {α : Type} (enc : α → Array Value) (c : α) (C : List α) : gcells enc (c :: C) = (enc c).toList ++ gcells enc C := by simp [gcells]
theorem gcells_at {α : Type} (enc : α → Array Value) (n : Nat) : ∀ (C : List α), (∀ c ∈ C, (enc c).size = n) → ∀ (i : Nat) (hi : i < C.length) (j : Nat), j < n → (gcells enc C)[n * i + j]? = (enc C[i])[j]?
  | [], _, i, hi, _, _ => absurd hi (by simp)
  | c :: C, h, 0, _, j, hj => by
    have h1 := h c (by simp)
    rw [gcells_cons, Nat.mul_zero, Nat.zero_add, List.getElem?_append_left (by rw [Array.length_toList, h1]; exact hj)]
    simp
  | c :: C, h, i + 1, hi, j, hj => by
    have h1 := h c (by simp)
    have ih := gcells_at enc n C (fun d hd => h d (by simp [hd])) i (by simpa using hi) j hj
    rw [gcells_cons, show n * (i + 1) + j = n + (n * i + j) by rw [Nat.mul_add, Nat.mul_one]; omega, List.getElem?_append_right (by rw [Array.length_toList, h1]; omega), Array.length_toList, h1, Nat.add_sub_cancel_left]
    simpa using ih

theorem gfold_get (off : Nat) : ∀ (xs : List Value) (n : Nat) (cells : Array Value) (k : Nat), off + n + xs.length ≤ cells.size →
    ((xs.zipIdx n).foldl (fun cs (x : Value × Nat) => cs.setIfInBounds (off + x.2) x.1) cells)[k]? = if off + n ≤ k ∧ k < off + n + xs.length then xs[k - (off + n)]? else cells[k]?
  | [], n, cells, k, _ => by
    simp only [List.zipIdx_nil, List.foldl_nil, List.length_nil, Nat.add_zero]
    rw [if_neg (by omega)]
  | x :: xs, n, cells, k, h => by
    simp only [List.length_cons] at h
    rw [List.zipIdx_cons, List.foldl_cons, gfold_get off xs (n + 1) _ k (by simp; omega)]
    simp only [List.length_cons]
    by_cases h1 : off + (n + 1) ≤ k ∧ k < off + (n + 1) + xs.length
    · rw [if_pos h1, if_pos (by omega), show k - (off + n) = (k - (off + (n + 1))) + 1 by omega, List.getElem?_cons_succ]
    · rw [if_neg h1]
      by_cases h2 : k = off + n
      · subst h2
        rw [if_pos (by omega), Nat.sub_self, List.getElem?_cons_zero, Array.getElem?_setIfInBounds_self_of_lt (by omega)]
      · rw [if_neg (by omega), Array.getElem?_setIfInBounds_ne (by omega)]
theorem gfold_all (xs cells : Array Value) (h : xs.size = cells.size) : xs.zipIdx.foldl (fun cs (x : Value × Nat) => cs.setIfInBounds (0 + x.2) x.1) cells = xs := by
  have e : xs.zipIdx.foldl (fun cs (x : Value × Nat) => cs.setIfInBounds (0 + x.2) x.1) cells = (xs.toList.zipIdx 0).foldl (fun cs (x : Value × Nat) => cs.setIfInBounds (0 + x.2) x.1) cells := by
    rw [← Array.foldl_toList]; simp
  rw [e]
  apply Array.ext_getElem?
  intro k
  rw [gfold_get 0 xs.toList 0 cells k (by simp; omega)]
  by_cases hk : k < xs.size
  · rw [if_pos (by simp; omega)]; simp
  · rw [if_neg (by simp; omega), Array.getElem?_eq_none (by omega), Array.getElem?_eq_none (by omega)]

set_option maxRecDepth 20000 in
/-- A slice of one element. -/
theorem wl_buildE {E : El} (H : E.Ok) {ops : Array Oper} {rest : List Oper} {o : Oper} {a : Act} {w : World} {Q : Exit → Act → World → Prop} (hg : o.guard = none) (x : Operand) (ho : o.op = .buildSlice E.slice 1 #[(0, x)]) (cs : Array Value) (hcs : cs.size = E.size) (hx : a.eval x = .agg cs)
    (h : wpList Try.prog ops Q rest (a.put o.dst (.slice (some ⟨w.heap.size, 0, none⟩) 1 1)) (w.alloc (.cells cs E.elem))) : wpList Try.prog ops Q (o :: rest) a w := by
  obtain ⟨ie, hie, hz, hs, _⟩ := H.info
  refine wpList_buildSlice hg E.slice E.elem 1 _ ho cs ie (.agg E.zero) H.hs hie hz (by rw [hs]; have := H.hn; omega) (by rw [hs]; have := H.hp; omega) ?_ h
  simp only [List.map_toArray, List.map_cons, List.map_nil, hx, Instr.fill, hs, Nat.zero_mul, Value.cells, hcs]
  rw [if_neg (by simp)]
  congr 1
  exact gfold_all _ _ (by rw [hcs]; simp)

/-- One element appended to one's own row of them, and where the new row lies. -/
theorem wl_appendE {E : El} (H : E.Ok) {α : Type} (enc : α → Array Value) {ops : Array Oper} {rest : List Oper} {o : Oper} {a : Act} {w : World} {Q : Exit → Act → World → Prop} (hgd : o.guard = none) (s x : Operand) (ho : o.op = .call { callee := .builtin .append, args := #[s, x], argTypes := #[E.slice, E.slice] })
    (base : Nat) (v : Value) (C : List α) (c : α) (hf : Fits E (enc c)) (hs : a.eval s = v) (hown : w.ownsRow base E.elem E.size v C.length (gcells enc C)) (g cap : Nat) (hx : a.eval x = .slice (some ⟨g, 0, none⟩) 1 cap) (hg : w.heap[g]? = some (.cells (enc c) E.elem (0, 0)))
    (hn : C.length ≤ 1000000) (hbase : base ≤ w.heap.size)
    (h : ∀ v' w', w'.ownsRow base E.elem E.size v' (C ++ [c]).length (gcells enc (C ++ [c])) → w.grownBy w' v.ownBlock → (v'.ownBlock = v.ownBlock ∨ v'.ownBlock = some w.heap.size) → wpList Try.prog ops Q rest (a.put o.dst v') w') : wpList Try.prog ops Q (o :: rest) a w := by
  obtain ⟨i0, hi, hz0, hz1, hz2⟩ := H.info
  have hb := H.hb
  refine wpList_append_own_at _ hgd s x E.slice ho base E.elem i0 (.agg E.zero) E.size E.bytes H.hs hi hz0 hz1 hz2 (by simpa [Value.cells] using H.hz) H.hp v _ _ hs hown ⟨g, 0, none⟩ 1 cap (enc c).toList hx (by rw [Array.length_toList, hf.1, Nat.one_mul]) (fun j y hy => ?_) (fun u hu => ?_) (by unfold maxLen; omega) ?_ hbase ?_
  · have hadd : (⟨g, 0, none⟩ : Addr).add j = ⟨g, j, none⟩ := by unfold Addr.add; split <;> simp_all
    rw [hadd, cell_of_row w g j _ _ _ hg, ← hy]
    simp
  · exact (Array.all_eq_true_iff_forall_mem.1 hf.2) u (by simpa using hu)
  · exact Nat.le_trans (Nat.mul_le_mul (show C.length + 1 ≤ 1000001 by omega) hb) (by decide)
  · intro v' w' h5 h6 _ h7
    refine h v' w' ?_ h6 h7
    rw [List.length_append, gcells_append, gcells_one]; exact h5

/-- A slice, wherever it lies, whose elements are these. -/
def GSl {α : Type} (E : El) (enc : α → Array Value) (w : World) (v : Value) (C : List α) : Prop :=
  ∃ (o : Option Addr) (cap : Nat), v = .slice o C.length cap ∧ C.length ≤ cap ∧ cap ≤ maxLen ∧ ∀ (i : Nat) (hi : i < C.length), ∃ g off cur t fr, o = some ⟨g, off, none⟩ ∧ w.heap[g]? = some (.cells cur t fr) ∧ ∀ j, j < E.size → cur[off + i * E.size + j]? = (enc C[i])[j]?
theorem GSl.below {α : Type} {E : El} {enc : α → Array Value} {w w' : World} {v : Value} {C : List α} (h : GSl E enc w v C) (hb : Below w.heap.size w w') : GSl E enc w' v C := by
  obtain ⟨o, cap, rfl, h1, h2, h3⟩ := h
  refine ⟨o, cap, rfl, h1, h2, fun i hi => ?_⟩
  obtain ⟨g, off, cur, t, fr, h4, h5, h6⟩ := h3 i hi
  exact ⟨g, off, cur, t, fr, h4, (hb.block g (Array.getElem?_eq_some_iff.1 h5).1).trans h5, h6⟩
theorem GSl.slice {α : Type} {E : El} {enc : α → Array Value} {w : World} {v : Value} {C : List α} (h : GSl E enc w v C) : ∃ (o : Option Addr) (cap : Nat), v = .slice o C.length cap ∧ C.length ≤ cap ∧ cap ≤ maxLen := by
  obtain ⟨o, cap, h1, h2, h3, _⟩ := h
  exact ⟨o, cap, h1, h2, h3⟩
theorem GSl.at {α : Type} {E : El} {enc : α → Array Value} {w : World} {o : Option Addr} {n cap : Nat} {C : List α} (h : GSl E enc w (.slice o n cap) C) (k : Nat) (hk : k < n) :
    ∃ g off cur t fr, ∃ c : α, o = some ⟨g, off, none⟩ ∧ w.heap[g]? = some (.cells cur t fr) ∧ (∀ j, j < E.size → cur[off + k * E.size + j]? = (enc c)[j]?) ∧ C[k]? = some c := by
  obtain ⟨o', cap', h1, _, _, h3⟩ := h
  simp only [Value.slice.injEq] at h1
  obtain ⟨rfl, rfl, rfl⟩ := h1
  obtain ⟨g, off, cur, t, fr, h4, h5, h6⟩ := h3 k hk
  exact ⟨g, off, cur, t, fr, C[k], h4, h5, h6, List.getElem?_eq_getElem hk⟩
theorem gsl_of {α : Type} {E : El} {enc : α → Array Value} {w : World} {B : Nat} {v : Value} {C : List α} (h : w.ownsRow B E.elem E.size v C.length (gcells enc C)) (hC : ∀ c ∈ C, (enc c).size = E.size) : GSl E enc w v C := by
  obtain ⟨h1, ⟨rfl, h2⟩ | ⟨g, cap, cur, rfl, hB, hcur, h5, h6, _, h4⟩⟩ := h
  · exact ⟨none, 0, by rw [h2], by omega, Nat.zero_le _, fun i hi => by omega⟩
  · refine ⟨_, cap, rfl, h5, h6, fun i hi => ⟨g, 0, cur, _, _, rfl, hcur, fun j hj => ?_⟩⟩
    have hlt : E.size * i + j < C.length * E.size := by
      have : E.size * (i + 1) ≤ E.size * C.length := Nat.mul_le_mul_left _ hi
      rw [Nat.mul_add, Nat.mul_one] at this
      rw [Nat.mul_comm C.length]
      omega
    rw [← gcells_at enc E.size C hC i hi j hj, ← h4, List.getElem?_take_of_lt hlt, Nat.zero_add, Nat.mul_comm]
    simp
theorem gsl_nil {α : Type} (E : El) (enc : α → Array Value) (w : World) : GSl E enc w (.slice none 0 0) [] := ⟨none, 0, rfl, Nat.le_refl _, Nat.zero_le _, fun i hi => absurd hi (by simp)⟩
theorem gown_below {w w' : World} {B : Nat} {e : TypeId} {s : Nat} {v : Value} {n : Nat} {xs : List Value} (h : w.ownsRow B e s v n xs) (hb : Below w.heap.size w w') : w'.ownsRow B e s v n xs := by
  obtain ⟨h1, h2 | ⟨g, cap, cur, rfl, hB, hcur, h3⟩⟩ := h
  · exact ⟨h1, .inl h2⟩
  · exact ⟨h1, .inr ⟨g, cap, cur, rfl, hB, (hb.block g (Array.getElem?_eq_some_iff.1 hcur).1).trans hcur, h3⟩⟩
theorem gown_base {w : World} {B B' : Nat} {e : TypeId} {s : Nat} {v : Value} {n : Nat} {xs : List Value} (h : w.ownsRow B e s v n xs) (hB' : B' ≤ B) : w.ownsRow B' e s v n xs := by
  obtain ⟨h1, h2 | ⟨g', cap, cur, rfl, hB, h3⟩⟩ := h
  · exact ⟨h1, .inl h2⟩
  · exact ⟨h1, .inr ⟨g', cap, cur, rfl, by omega, h3⟩⟩
end Go.Proofs.Ytbigifmfbibgoaa
namespace Go.Proofs.Ytbigifmfbibgoaa
open Go Go.RowKit
set_option maxRecDepth 20000

/-- All blocks but these are as they were. -/
structure Kept (X : Nat → Prop) (w w' : World) : Prop where
  os : w'.os = w.os
  tape : w'.tape = w.tape
  output : w'.output = w.output
  size : w.heap.size ≤ w'.heap.size
  block : ∀ k, k < w.heap.size → ¬ X k → w'.heap[k]? = w.heap[k]?
theorem Kept.refl (X : Nat → Prop) (w : World) : Kept X w w := ⟨rfl, rfl, rfl, Nat.le_refl _, fun _ _ _ => rfl⟩
theorem Kept.of_below {X : Nat → Prop} {w w' : World} (h : Below w.heap.size w w') : Kept X w w' := ⟨h.os, h.tape, h.output, h.size, fun k hk _ => h.block k hk⟩
theorem Kept.of_grown {X : Nat → Prop} {w w' : World} {row : Option Nat} (h : w.grownBy w' row) (hr : ∀ k, row = some k → X k) : Kept X w w' :=
  ⟨h.os, h.tape, h.output, h.size, fun k hk hX => h.block k hk fun e => hX (hr k e.symm)⟩
theorem Kept.trans {X Y : Nat → Prop} {w w1 w2 : World} (h : Kept X w w1) (h' : Kept Y w1 w2) (hY : ∀ k, Y k → X k ∨ w.heap.size ≤ k) : Kept X w w2 :=
  ⟨h'.os.trans h.os, h'.tape.trans h.tape, h'.output.trans h.output, Nat.le_trans h.size h'.size, fun k hk hX => by
    rw [h'.block k (Nat.lt_of_lt_of_le hk h.size) (fun hy => by rcases hY k hy with e | e; exact hX e; omega)]
    exact h.block k hk hX⟩
theorem Kept.mono {X Y : Nat → Prop} {w w' : World} (h : Kept X w w') (hXY : ∀ k, k < w.heap.size → X k → Y k) : Kept Y w w' := ⟨h.os, h.tape, h.output, h.size, fun k hk hY => h.block k hk fun hX => hY (hXY k hk hX)⟩
theorem Kept.below {X : Nat → Prop} {w w' : World} {B : Nat} (h : Kept X w w') (hX : ∀ k, X k → B ≤ k) (hB : B ≤ w.heap.size) : Below B w w' :=
  ⟨h.os, h.tape, h.output, h.size, fun k hk => h.block k (by omega) fun hx => by have := hX k hx; omega⟩
theorem Kept.add {X : Nat → Prop} {w w1 w2 : World} (h : Kept X w w1) (h' : Below w1.heap.size w1 w2) : Kept X w w2 := h.trans (Y := fun _ => False) (Kept.of_below h') fun _ h => h.elim
theorem Kept.pre {X : Nat → Prop} {w w1 w2 : World} (h : Below w.heap.size w w1) (h' : Kept X w1 w2) : Kept X w w2 := (Kept.of_below (X := X) h).trans h' fun _ hk => .inl hk
theorem Kept.heap {X : Nat → Prop} {w w' : World} {k : Nat} {o : Obj} (h : Kept X w w') (hk : w.heap[k]? = some o) (hX : ¬ X k) : w'.heap[k]? = some o := (h.block k (Array.getElem?_eq_some_iff.1 hk).1 hX).trans hk
theorem Kept.own {X : Nat → Prop} {w w' : World} (h : Kept X w w') {B : Nat} {e : TypeId} {s : Nat} {v : Value} {n : Nat} {xs : List Value} (ho : w.ownsRow B e s v n xs) (hX : ∀ k, v.ownBlock = some k → ¬ X k) : w'.ownsRow B e s v n xs := by
  obtain ⟨h1, h2 | ⟨g, cap, cur, rfl, hB, hcur, h3⟩⟩ := ho
  · exact ⟨h1, .inl h2⟩
  · exact ⟨h1, .inr ⟨g, cap, cur, rfl, hB, h.heap hcur (hX g rfl), h3⟩⟩

/-- Two rows lie apart. -/
def ApartR (a b : Option Nat) : Prop := a = none ∨ b = none ∨ a ≠ b
theorem ApartR.symm {a b : Option Nat} (h : ApartR a b) : ApartR b a := by
  rcases h with h | h | h
  · exact .inr (.inl h)
  · exact .inl h
  · exact .inr (.inr fun e => h e.symm)
theorem below_step {B : Nat} {w wr w' : World} (hb : Below B w wr) (hB : B ≤ wr.heap.size) (h : Below wr.heap.size wr w') : Below B w w' := hb.trans (h.mono hB)
def isB (g : Nat) (k : Nat) : Prop := k = g
def rowX (v : Value) (k : Nat) : Prop := v.ownBlock = some k
end Go.Proofs.Ytbigifmfbibgoaa
namespace Go.Proofs.Ytbigifmfbibgoaa
open Go Go.RowKit
set_option maxRecDepth 20000

/-! What a call on a state that lies in certain blocks (its foot) leaves. -/
structure Frm (F F' : Nat → Prop) (w w' : World) : Prop where
  kept : Kept F w w'
  foot : ∀ k, F' k → F k ∨ w.heap.size ≤ k
theorem Frm.of_below {F : Nat → Prop} {w w' : World} (h : Below w.heap.size w w') : Frm F F w w' := ⟨Kept.of_below h, fun _ e => .inl e⟩
theorem Frm.refl (F : Nat → Prop) (w : World) : Frm F F w w := ⟨Kept.refl _ _, fun _ e => .inl e⟩
theorem Frm.trans {F F1 F2 : Nat → Prop} {w w1 w2 : World} (h : Frm F F1 w w1) (h' : Frm F1 F2 w1 w2) : Frm F F2 w w2 :=
  ⟨h.kept.trans h'.kept h.foot, fun k e => by
    rcases h'.foot k e with e | e
    · exact h.foot k e
    · exact .inr (Nat.le_trans h.kept.size e)⟩
theorem Frm.add {F F' : Nat → Prop} {w w1 w2 : World} (h : Frm F F' w w1) (hb : Below w1.heap.size w1 w2) : Frm F F' w w2 := h.trans (Frm.of_below hb)
theorem Frm.pre {F F' : Nat → Prop} {w w1 w2 : World} (hb : Below w.heap.size w w1) (h : Frm F F' w1 w2) : Frm F F' w w2 := (Frm.of_below hb).trans h
theorem Frm.apart {F F' G : Nat → Prop} {w w' : World} (h : Frm F F' w w') (hG : ∀ k, G k → k < w.heap.size) (ha : ∀ k, F k → ¬ G k) : ∀ k, F' k → ¬ G k := fun k e e' => by
  rcases h.foot k e with e1 | e1
  · exact ha k e1 e'
  · have := hG k e'; omega
/-- Blocks outside the foot stay. -/
theorem Frm.heap {F F' : Nat → Prop} {w w' : World} (h : Frm F F' w w') {k : Nat} {o : Obj} (hk : w.heap[k]? = some o) (hF : ¬ F k) : w'.heap[k]? = some o := h.kept.heap hk hF
/-- Worlds in which a block stays. -/
structure KeepB (p : Nat) (ob : Obj) where
  world : World
  k1 : world.heap[p]? = some ob
abbrev InB (p : Nat) (ob : Obj) (w : World) : Prop := ∃ z : KeepB p ob, w = z.world
theorem InB.of {w : World} {p : Nat} {ob : Obj} (h : w.heap[p]? = some ob) : InB p ob w := ⟨⟨w, h⟩, rfl⟩
end Go.Proofs.Ytbigifmfbibgoaa
namespace Go.Proofs.Ytbigifmfbibgoaa
open Go
set_option maxRecDepth 20000

/-! What a switch holds of epochs (layer 18): its mathematics. cnt: how many items of an epoch are held, and of how many. -/
structure HoldM where
  life : Int
  floor : Int
  top : Int
  use : Int
  said : Int
  cnt : Int → Nat × Int
def newH (inc : Int) : HoldM := ⟨inc, 0, 0, 0, 0, fun _ => (0, 0)⟩
def fullH (h : HoldM) (e : Int) : Bool := decide (0 < (h.cnt e).1) && decide (((h.cnt e).1 : Int) = (h.cnt e).2)
/-- All but those of the floor and the top is gone. -/
def forgetH (h : HoldM) : HoldM :=
  { h with cnt := fun e => if e = h.floor ∨ e = h.top then h.cnt e else (0, 0),
           use := if h.use = h.floor ∨ h.use = h.top then h.use else 0,
           said := if h.use = h.floor ∨ h.use = h.top then h.said else 0 }
def liftH (h : HoldM) (f : Int) : HoldM := if h.floor < f then forgetH { h with floor := f, top := max h.top f } else h
def riseH (h : HoldM) (e : Int) : HoldM := if h.top < e then forgetH { h with top := e } else h
def addH (h : HoldM) (e o : Int) : HoldM := { h with cnt := fun x => if x = e then ((h.cnt e).1 + 1, o) else h.cnt x }
def itemH (h : HoldM) (floor epoch at_ of : Int) : HoldM × Int :=
  if floor < 0 ∨ epoch < 1 ∨ at_ < 0 ∨ of ≤ at_ then (h, 0) else
  if (epoch ≠ (riseH (liftH h floor) epoch).floor ∧ epoch ≠ (riseH (liftH h floor) epoch).top) ∨ (0 < ((riseH (liftH h floor) epoch).cnt epoch).1 ∧ ((riseH (liftH h floor) epoch).cnt epoch).2 ≠ of) ∨ (((riseH (liftH h floor) epoch).cnt epoch).1 : Int) < at_ then (riseH (liftH h floor) epoch, 0) else
  if at_ < (((riseH (liftH h floor) epoch).cnt epoch).1 : Int) then (riseH (liftH h floor) epoch, 2) else (addH (riseH (liftH h floor) epoch) epoch of, 1)
def sayH (h : HoldM) (sent use : Int) : HoldM :=
  if fullH h use = true then if use = h.use then { h with said := max h.said sent } else if h.use < use then { h with use := use, said := sent } else h else h
def leadH (h : HoldM) (sent use floor : Int) : HoldM × Bool :=
  if sent < 0 ∨ use < 0 ∨ floor < 0 then (h, false) else (sayH (liftH h floor) sent use, decide (0 < use) && decide ((sayH (liftH h floor) sent use).use = use))
def liveH (h : HoldM) (now lease : Int) : Bool := decide (0 < h.use) && decide (min (max now 0) 1099511627776 - h.said < lease)

/-- What holds whatever comes. -/
structure HoldOk (h : HoldM) : Prop where
  floor0 : 0 ≤ h.floor
  le : h.floor ≤ h.top
  two : ∀ e, 0 < (h.cnt e).1 → (e = h.floor ∨ e = h.top) ∧ 1 ≤ e
  few : ∀ e, ((h.cnt e).1 : Int) ≤ (h.cnt e).2
  none_ : ∀ e, (h.cnt e).1 = 0 → (h.cnt e).2 = 0
  uses : h.use ≠ 0 → fullH h h.use = true
  use0 : 0 ≤ h.use
  said0 : h.use = 0 → h.said = 0
theorem new_okH (inc : Int) : HoldOk (newH inc) := ⟨Int.le_refl _, Int.le_refl _, fun e h => absurd h (by simp [newH]), fun e => Int.le_refl _, fun e _ => rfl, fun h => absurd rfl h, Int.le_refl _, fun _ => rfl⟩
theorem full_cnt {h : HoldM} {e : Int} : fullH h e = true ↔ 0 < (h.cnt e).1 ∧ ((h.cnt e).1 : Int) = (h.cnt e).2 := by
  unfold fullH
  rw [Bool.and_eq_true, decide_eq_true_eq, decide_eq_true_eq]
/-- To forget, where the floor and the top have just been set. -/
theorem forget_ok {h : HoldM} {f t : Int} (hk : HoldOk h) (hf : h.floor ≤ f) (ht : f ≤ t) : HoldOk (forgetH { h with floor := f, top := t }) := by
  have hf0 := hk.floor0
  refine ⟨?_, ht, fun e he => ?_, fun e => ?_, fun e he => ?_, fun he => ?_, ?_, fun he => ?_⟩
  · show 0 ≤ f
    omega
  · unfold forgetH at he ⊢
    dsimp only at he ⊢
    split at he
    · rename_i hc
      exact ⟨hc, (hk.two e he).2⟩
    · exact absurd he (by simp)
  · unfold forgetH
    dsimp only
    split
    · exact hk.few e
    · simp
  · unfold forgetH at he ⊢
    dsimp only at he ⊢
    split at he
    · rename_i hc
      rw [if_pos hc]
      exact hk.none_ e he
    · rename_i hc
      rw [if_neg hc]
  · unfold forgetH at he ⊢
    dsimp only at he ⊢
    split at he
    · rename_i hc
      have h1 := hk.uses he
      rw [if_pos hc]
      rw [full_cnt] at h1 ⊢
      dsimp only
      simp only [if_pos hc]
      exact h1
    · exact absurd rfl he
  · unfold forgetH
    dsimp only
    split
    · exact hk.use0
    · exact Int.le_refl _
  · unfold forgetH at he ⊢
    dsimp only at he ⊢
    split
    · rename_i hc
      rw [if_pos hc] at he
      exact hk.said0 he
    · rfl
theorem lift_ok {h : HoldM} (hk : HoldOk h) (f : Int) : HoldOk (liftH h f) := by
  unfold liftH
  split
  · exact forget_ok hk (by omega) (by omega)
  · exact hk
theorem rise_ok {h : HoldM} (hk : HoldOk h) (e : Int) : HoldOk (riseH h e) := by
  unfold riseH
  split
  · have := hk.le
    exact forget_ok (f := h.floor) (t := e) hk (Int.le_refl _) (by omega)
  · exact hk
theorem lift_mono (h : HoldM) (f : Int) : h.floor ≤ (liftH h f).floor ∧ h.top ≤ (liftH h f).top := by
  unfold liftH
  split
  · unfold forgetH; dsimp only; omega
  · exact ⟨Int.le_refl _, Int.le_refl _⟩
theorem rise_mono (h : HoldM) (e : Int) : h.floor ≤ (riseH h e).floor ∧ h.top ≤ (riseH h e).top := by
  unfold riseH
  split
  · unfold forgetH; dsimp only; omega
  · exact ⟨Int.le_refl _, Int.le_refl _⟩
/-- What is in use stays, or is gone as it is neither floor nor top. -/
def useTo (h h' : HoldM) : Prop := (h'.use = h.use ∧ h'.said = h.said) ∨ (h'.use = 0 ∧ h.use ≠ h'.floor ∧ h.use ≠ h'.top)
theorem useTo_refl (h : HoldM) : useTo h h := .inl ⟨rfl, rfl⟩
theorem forget_use (h : HoldM) (f t : Int) : useTo h (forgetH { h with floor := f, top := t }) := by
  unfold useTo forgetH
  dsimp only
  by_cases hc : h.use = f ∨ h.use = t
  · rw [if_pos hc, if_pos hc]; exact .inl ⟨rfl, rfl⟩
  · rw [if_neg hc]; exact .inr ⟨rfl, fun e => hc (.inl e), fun e => hc (.inr e)⟩
theorem lift_use (h : HoldM) (f : Int) : useTo h (liftH h f) := by
  unfold liftH
  split
  · exact forget_use h _ _
  · exact useTo_refl h
theorem rise_use (h : HoldM) (e : Int) : useTo h (riseH h e) := by
  unfold riseH
  split
  · exact forget_use h h.floor e
  · exact useTo_refl h
theorem add_ok {h : HoldM} (hk : HoldOk h) {e o : Int} (h1 : e = h.floor ∨ e = h.top) (h2 : 1 ≤ e) (h3 : 0 < (h.cnt e).1 → (h.cnt e).2 = o) (h4 : ((h.cnt e).1 : Int) < o) : HoldOk (addH h e o) := by
  refine ⟨hk.floor0, hk.le, fun x hx => ?_, fun x => ?_, fun x hx => ?_, fun hu => ?_, hk.use0, hk.said0⟩
  · unfold addH at hx
    dsimp only at hx
    by_cases ex : x = e
    · rw [ex]; exact ⟨h1, h2⟩
    · rw [if_neg ex] at hx
      exact hk.two x hx
  · unfold addH
    dsimp only
    by_cases ex : x = e
    · rw [if_pos ex]
      dsimp only
      omega
    · rw [if_neg ex]; exact hk.few x
  · unfold addH at hx ⊢
    dsimp only at hx ⊢
    by_cases ex : x = e
    · rw [if_pos ex] at hx
      exact absurd hx (by simp)
    · rw [if_neg ex] at hx ⊢
      exact hk.none_ x hx
  · have h5 := hk.uses hu
    rw [full_cnt] at h5 ⊢
    have hne : h.use ≠ e := fun ex => by
      rw [ex] at h5
      have := h3 h5.1
      omega
    have e1 : (addH h e o).cnt (addH h e o).use = h.cnt h.use := by
      unfold addH
      dsimp only
      rw [if_neg hne]
    rw [e1]
    exact h5
theorem item_ok {h : HoldM} (hk : HoldOk h) (floor epoch at_ of : Int) : HoldOk (itemH h floor epoch at_ of).1 := by
  unfold itemH
  split
  · exact hk
  · rename_i hc
    have h1 := rise_ok (lift_ok hk floor) epoch
    split
    · exact h1
    · rename_i hd
      split
      · exact h1
      · rename_i he
        rw [not_or, not_or] at hd
        refine add_ok h1 ?_ (by omega) (fun hp => Classical.byContradiction fun hq => hd.2.1 ⟨hp, hq⟩) (by omega)
        rcases Classical.em (epoch = (riseH (liftH h floor) epoch).floor) with e | e
        · exact .inl e
        · exact .inr (Classical.byContradiction fun e2 => hd.1 ⟨e, e2⟩)
theorem item_mono (h : HoldM) (floor epoch at_ of : Int) : h.floor ≤ (itemH h floor epoch at_ of).1.floor ∧ h.top ≤ (itemH h floor epoch at_ of).1.top := by
  have h1 := lift_mono h floor
  have h2 := rise_mono (liftH h floor) epoch
  have h3 : h.floor ≤ (riseH (liftH h floor) epoch).floor ∧ h.top ≤ (riseH (liftH h floor) epoch).top := ⟨Int.le_trans h1.1 h2.1, Int.le_trans h1.2 h2.2⟩
  unfold itemH
  split
  · exact ⟨Int.le_refl _, Int.le_refl _⟩
  · split
    · exact h3
    · split
      · exact h3
      · exact h3
theorem useTo_trans {a b c : HoldM} (hbc : b.floor = c.floor ∨ c.floor ≠ a.use) (hbt : b.top = c.top ∨ c.top ≠ a.use) (h1 : useTo a b) (h2 : useTo b c) (h0 : b.use = 0 → c.use = 0) : useTo a c := by
  rcases h1 with ⟨e1, e2⟩ | ⟨e1, e2, e3⟩
  · rcases h2 with ⟨g1, g2⟩ | ⟨g1, g2, g3⟩
    · exact .inl ⟨g1.trans e1, g2.trans e2⟩
    · rw [e1] at g2 g3
      exact .inr ⟨g1, g2, g3⟩
  · refine .inr ⟨h0 e1, ?_, ?_⟩
    · rcases hbc with e | e
      · rw [← e]; exact e2
      · exact fun x => e x.symm
    · rcases hbt with e | e
      · rw [← e]; exact e3
      · exact fun x => e x.symm
/-- An item leaves what is in use, or it is gone as it is neither floor nor top then. -/
theorem item_use {h : HoldM} (hk : HoldOk h) (floor epoch at_ of : Int) : useTo h (itemH h floor epoch at_ of).1 := by
  have key : useTo h (riseH (liftH h floor) epoch) := by
    have h1 := lift_use h floor
    have h2 := rise_use (liftH h floor) epoch
    have hfl : (riseH (liftH h floor) epoch).floor = (liftH h floor).floor := by
      unfold riseH
      split
      · rfl
      · rfl
    have hul : h.use ≤ (liftH h floor).top := by
      have := (lift_mono h floor).2
      by_cases hu : h.use = 0
      · have := hk.floor0
        have := hk.le
        omega
      · have h3 := (full_cnt.1 (hk.uses hu)).1
        rcases (hk.two _ h3).1 with e | e
        · have := hk.le
          omega
        · omega
    refine useTo_trans (.inl hfl.symm) ?_ h1 h2 ?_
    · unfold riseH
      split
      · right
        show epoch ≠ h.use
        omega
      · exact .inl rfl
    · intro h0
      rcases h2 with ⟨g1, _⟩ | ⟨g1, _⟩
      · rw [g1]; exact h0
      · exact g1
  unfold itemH
  split
  · exact useTo_refl h
  · split
    · exact key
    · split
      · exact key
      · exact key
theorem say_ok {h : HoldM} (hk : HoldOk h) {sent use : Int} : HoldOk (sayH h sent use) := by
  unfold sayH
  split
  · rename_i hf
    split
    · rename_i hu
      refine ⟨hk.floor0, hk.le, hk.two, hk.few, hk.none_, hk.uses, hk.use0, fun h0 => ?_⟩
      have h1 := (hk.two _ (full_cnt.1 hf).1).2
      dsimp only at h0
      omega
    · split
      · have h1 := (hk.two _ (full_cnt.1 hf).1).2
        exact ⟨hk.floor0, hk.le, hk.two, hk.few, hk.none_, fun _ => hf, (by show 0 ≤ use; omega), fun h0 => by dsimp only at h0; omega⟩
      · exact hk
  · exact hk
theorem lead_ok {h : HoldM} (hk : HoldOk h) (sent use floor : Int) : HoldOk (leadH h sent use floor).1 := by
  unfold leadH
  split
  · exact hk
  · exact say_ok (lift_ok hk floor)
theorem say_same (h : HoldM) (sent use : Int) : (sayH h sent use).floor = h.floor ∧ (sayH h sent use).top = h.top ∧ (sayH h sent use).cnt = h.cnt := by
  unfold sayH
  split
  · split
    · exact ⟨rfl, rfl, rfl⟩
    · split <;> exact ⟨rfl, rfl, rfl⟩
  · exact ⟨rfl, rfl, rfl⟩
theorem lead_mono (h : HoldM) (sent use floor : Int) : h.floor ≤ (leadH h sent use floor).1.floor ∧ h.top ≤ (leadH h sent use floor).1.top := by
  unfold leadH
  split
  · exact ⟨Int.le_refl _, Int.le_refl _⟩
  · dsimp only
    rw [(say_same _ _ _).1, (say_same _ _ _).2.1]
    exact lift_mono h floor
/-- What is gone by a floor is below it. -/
theorem lift_gone {h : HoldM} (hk : HoldOk h) {f : Int} (hne : (liftH h f).use ≠ h.use) : h.use < (liftH h f).floor := by
  unfold liftH at hne ⊢
  by_cases hf : h.floor < f
  · rw [if_pos hf] at hne ⊢
    unfold forgetH at hne ⊢
    dsimp only at hne ⊢
    by_cases hc : h.use = f ∨ h.use = max h.top f
    · rw [if_pos hc] at hne; exact absurd rfl hne
    · rw [if_neg hc] at hne
      rw [not_or] at hc
      have h0 : h.use ≠ 0 := fun e => hne e.symm
      have := hk.le
      rcases (hk.two _ (full_cnt.1 (hk.uses h0)).1).1 with e | e <;> omega
  · rw [if_neg hf] at hne; exact absurd rfl hne
/-- A lead leaves what is in use, or that epoch comes into use, above what was. -/
theorem lead_use {h : HoldM} (hk : HoldOk h) (sent use floor : Int) : useTo h (leadH h sent use floor).1 ∨
    ((leadH h sent use floor).1.use = use ∧ 1 ≤ use ∧ 0 ≤ sent ∧ (((leadH h sent use floor).1.said = sent ∧ h.use ≤ use) ∨ ((leadH h sent use floor).1.said = h.said ∧ h.use = use))) := by
  unfold leadH
  split
  · exact .inl (useTo_refl h)
  · rename_i hc
    dsimp only
    have hk1 := lift_ok hk floor
    have h1 := lift_use h floor
    unfold sayH
    split
    · rename_i hf
      have h2 := hk1.two _ (full_cnt.1 hf).1
      split
      · rename_i hu
        right
        dsimp only
        rcases h1 with ⟨g1, g2⟩ | ⟨g1, g2, g3⟩
        · refine ⟨hu.symm, h2.2, by omega, ?_⟩
          by_cases hm : (liftH h floor).said ≤ sent
          · exact .inl ⟨by omega, by omega⟩
          · exact .inr ⟨by omega, by omega⟩
        · omega
      · rename_i hu
        split
        · rename_i hlt
          right
          refine ⟨rfl, h2.2, by omega, .inl ⟨rfl, ?_⟩⟩
          by_cases hg : (liftH h floor).use = h.use
          · omega
          · have h3 := lift_gone hk hg
            have h4 := hk1.le
            rcases h2.1 with e | e <;> omega
        · exact .inl h1
    · exact .inl h1
/-- HoldUses. -/
theorem useTo_law {h h' : HoldM} (hu : useTo h h') : (h'.use ≠ h.use → h'.use = 0) ∧ (h'.use = 0 → h.use ≠ 0 → h.use ≠ h'.floor ∧ h.use ≠ h'.top) := by
  rcases hu with ⟨e, _⟩ | ⟨e1, e2, e3⟩
  · exact ⟨fun hne => absurd e hne, fun h0 hn => absurd (e.symm.trans h0) hn⟩
  · exact ⟨fun _ => e1, fun _ _ => ⟨e2, e3⟩⟩
theorem lead_law {h : HoldM} (hk : HoldOk h) (sent use floor : Int) : ((leadH h sent use floor).1.use ≠ h.use → (leadH h sent use floor).1.use ≠ 0 → (leadH h sent use floor).1.use = use ∧ h.use < use) ∧
    ((leadH h sent use floor).1.use = 0 → h.use ≠ 0 → h.use ≠ (leadH h sent use floor).1.floor ∧ h.use ≠ (leadH h sent use floor).1.top) := by
  rcases lead_use hk sent use floor with hu | ⟨e1, e2, e3, e4⟩
  · have := useTo_law hu
    exact ⟨fun h1 h2 => absurd (this.1 h1) h2, this.2⟩
  · refine ⟨fun h1 _ => ⟨e1, ?_⟩, fun h0 => by omega⟩
    rcases e4 with ⟨_, g⟩ | ⟨_, g⟩ <;> omega
/-- HoldLease: what is in use was said by a lead. -/
def ledBy (P : Int → Int → Prop) (h : HoldM) : Prop := h.use ≠ 0 → P h.use h.said
theorem useTo_led {P : Int → Int → Prop} {h h' : HoldM} (hu : useTo h h') (hp : ledBy P h) : ledBy P h' := fun h0 => by
  rcases hu with ⟨e1, e2⟩ | ⟨e1, _⟩
  · rw [e1] at h0
    rw [e1, e2]; exact hp h0
  · exact absurd e1 h0
theorem lead_led {P : Int → Int → Prop} {h : HoldM} (hk : HoldOk h) (hp : ledBy P h) {sent use floor : Int} (hn : 0 ≤ sent → P use sent) : ledBy P (leadH h sent use floor).1 := by
  rcases lead_use hk sent use floor with hu | ⟨e1, e2, e3, ⟨g1, _⟩ | ⟨g1, g2⟩⟩
  · exact useTo_led hu hp
  · intro _
    rw [e1, g1]; exact hn e3
  · intro _
    rw [e1, g1]
    have := hp (by omega)
    rwa [g2] at this
theorem live_led {P : Int → Int → Prop} {h : HoldM} (hp : ledBy P h) {now lease : Int} (h0 : 0 ≤ now) (h1 : now ≤ 1099511627776) (hl : liveH h now lease = true) : ∃ s, P h.use s ∧ now - s < lease := by
  unfold liveH at hl
  rw [Bool.and_eq_true, decide_eq_true_eq, decide_eq_true_eq] at hl
  exact ⟨h.said, hp (by omega), by omega⟩
/-- HoldFills: the next item of an epoch that is the top. -/
structure Filling (h : HoldM) (floor epoch of : Int) (i : Nat) : Prop where
  ok : HoldOk h
  fl : floor ≤ h.floor
  top : h.top = epoch
  cnt : (h.cnt epoch).1 = i
  of_ : 0 < i → (h.cnt epoch).2 = of
theorem fill_lift {h : HoldM} {floor epoch of : Int} {i : Nat} (hF : Filling h floor epoch of i) : riseH (liftH h floor) epoch = h := by
  unfold liftH
  rw [if_neg (by have := hF.fl; omega)]
  unfold riseH
  rw [if_neg (by have := hF.top; omega)]
theorem fill_more {h : HoldM} {floor epoch of : Int} {i : Nat} (hF : Filling h floor epoch of i) (hf : 0 ≤ floor) (he : 1 ≤ epoch) (hi : (i : Int) < of) : itemH h floor epoch i of = (addH h epoch of, 1) ∧ Filling (addH h epoch of) floor epoch of (i + 1) := by
  have hc := hF.cnt
  constructor
  · unfold itemH
    rw [if_neg (by omega), fill_lift hF, hF.cnt, if_neg, if_neg (by omega)]
    rw [not_or, not_or]
    exact ⟨fun h => h.2 hF.top.symm, fun h => h.2 (hF.of_ h.1), by omega⟩
  · refine ⟨add_ok hF.ok (.inr hF.top.symm) he (fun h => hF.of_ (by omega)) (by rw [hF.cnt]; exact hi), hF.fl, hF.top, ?_, fun _ => ?_⟩
    · unfold addH; dsimp only; rw [if_pos rfl, hF.cnt]
    · unfold addH; dsimp only; rw [if_pos rfl]
theorem fill_again {h : HoldM} {floor epoch of : Int} {i : Nat} (hF : Filling h floor epoch of (i + 1)) (hf : 0 ≤ floor) (he : 1 ≤ epoch) (hi : (i : Int) < of) : itemH h floor epoch i of = (h, 2) := by
  unfold itemH
  rw [if_neg (by omega), fill_lift hF, hF.cnt, if_neg, if_pos (by omega)]
  rw [not_or, not_or]
  exact ⟨fun h => h.2 hF.top.symm, fun h => h.2 (hF.of_ (by omega)), by omega⟩
theorem fill_odd {h : HoldM} {floor epoch of : Int} {i : Nat} (hF : Filling h floor epoch of i) {odd o : Int} (ho : (i : Int) < odd) : (itemH h floor epoch odd o).2 = 0 ∧ (itemH h floor epoch odd o).1 = h := by
  unfold itemH
  by_cases h1 : floor < 0 ∨ epoch < 1 ∨ odd < 0 ∨ o ≤ odd
  · rw [if_pos h1]; exact ⟨rfl, rfl⟩
  · rw [if_neg h1, fill_lift hF, if_pos (.inr (.inr (by rw [hF.cnt]; omega)))]
    exact ⟨rfl, rfl⟩
end Go.Proofs.Ytbigifmfbibgoaa
namespace Go.Proofs.Ytbigifmfbibgoaa
open Go
set_option maxRecDepth 20000

/-- A token. -/
structure Tok where
  kind : Nat
  pos : Nat
  text : List UInt8
  num : Nat

end Go.Proofs.Ytbigifmfbibgoaa
namespace Go.Proofs.Ytbigifmfbibgoaa
open Go Go.RowKit
set_option maxRecDepth 20000

end Go.Proofs.Ytbigifmfbibgoaa
namespace Go.Proofs.Ytbigifmfbibgoaa
open Go Go.RowKit
set_option maxRecDepth 20000

/-- Where a walk stands still. -/
def StopT (p : Prop) : Prop := p
theorem of_stopT {p : Prop} (h : StopT p) : p := h
end Go.Proofs.Ytbigifmfbibgoaa
namespace Go.Proofs.Ytbigifmfbibgoaa
open Go Go.RowKit
set_option maxRecDepth 20000

theorem wl_minI {ops : Array Oper} {rest : List Oper} {o : Oper} {a : Act} {w : World} {Q : Exit → Act → World → Prop} (hgd : o.guard = none) (x y : Operand) (ho : o.op = .call { callee := .builtin .min, args := #[x, y], argTypes := #[3, 3] })
    (p q r : Int) (hx : a.eval x = .int .i64 p) (hy : a.eval y = .int .i64 q) (hr : r = min p q) (h : wpList Try.prog ops Q rest (a.put o.dst (.int .i64 r)) w) : wpList Try.prog ops Q (o :: rest) a w := by
  obtain ⟨dst, op, ty, pos, after, guard⟩ := o
  subst ho
  have hr : (execOp a.eval ⟨dst, .call { callee := .builtin .min, args := #[x, y], argTypes := #[3, 3] }, ty, pos, after, guard⟩).run Try.prog w = .ok (.value (.int .i64 r)) w := by
    subst hr
    by_cases h1 : p ≤ q
    · rw [show min p q = p by omega]
      unfold execOp
      simp [resolve, invoke, builtin, hx, hy, Builtin.min_, Builtin.min2]
      all_goals omega
    · rw [show min p q = q by omega]
      unfold execOp
      simp [resolve, invoke, builtin, hx, hy, Builtin.min_, Builtin.min2]
      all_goals omega
  refine wpList_plain hgd fun K hK => ?_
  unfold Oper.wp
  rw [hr]
  exact hK _ _ h
theorem wl_maxI {ops : Array Oper} {rest : List Oper} {o : Oper} {a : Act} {w : World} {Q : Exit → Act → World → Prop} (hgd : o.guard = none) (x y : Operand) (ho : o.op = .call { callee := .builtin .max, args := #[x, y], argTypes := #[3, 3] })
    (p q r : Int) (hx : a.eval x = .int .i64 p) (hy : a.eval y = .int .i64 q) (hr : r = max p q) (h : wpList Try.prog ops Q rest (a.put o.dst (.int .i64 r)) w) : wpList Try.prog ops Q (o :: rest) a w := by
  obtain ⟨dst, op, ty, pos, after, guard⟩ := o
  subst ho
  have hr : (execOp a.eval ⟨dst, .call { callee := .builtin .max, args := #[x, y], argTypes := #[3, 3] }, ty, pos, after, guard⟩).run Try.prog w = .ok (.value (.int .i64 r)) w := by
    subst hr
    by_cases h1 : q ≤ p
    · rw [show max p q = p by omega]
      unfold execOp
      simp [resolve, invoke, builtin, hx, hy, Builtin.max_, Builtin.max2]
      all_goals omega
    · rw [show max p q = q by omega]
      unfold execOp
      simp [resolve, invoke, builtin, hx, hy, Builtin.max_, Builtin.max2]
      all_goals omega
  refine wpList_plain hgd fun K hK => ?_
  unfold Oper.wp
  rw [hr]
  exact hK _ _ h
end Go.Proofs.Ytbigifmfbibgoaa
