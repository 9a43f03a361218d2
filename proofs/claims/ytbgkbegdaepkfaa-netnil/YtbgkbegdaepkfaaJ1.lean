import Derived.Test.YtbgkbegdaepkfaaRows
import Derived.Test.YtbgkbegdaepkfaaProg
import Derived.ProofKit
import Derived.OpenShut
import Derived.Carry
import Derived.WalkKit
import Derived.WalkSpells
import Derived.WalkLawsBesides
import Derived.BigQuiet
import Derived.KernelRfl
import Derived.Laws.StructEq
import Derived.Laws.Tables
import Derived.Laws.Rows
import Derived.Great.BuildSlice
import Derived.Laws.AppendOwn
import Derived.Laws.OwnMore
import Derived.Maps.AppendAt
import Derived.OwnWalk
import Derived.Lib.Bytealg
import Derived.Lib.UnsafeStr
import Derived.Lib.BufferWrite
import Derived.Laws.MakeOwn
import Derived.Shelf.Strconv.Clone
namespace Go.Proofs.Ytbgkbegdaepkfaa
open Go.ChangeShapes Go.WideShapes Go.ChangeAt Go.WideMaps Go.WideElems Go.RowKit
set_option maxRecDepth 20000

theorem ownK : ownKnob Try.prog.godebug = none := by kernel_rfl
theorem laidK : laidOutB Try.prog = true := by kernel_rfl
end Go.Proofs.Ytbgkbegdaepkfaa
namespace Go.Proofs.Ytbgkbegdaepkfaa
open Go Go.RowKit
set_option maxRecDepth 20000

theorem ret_bool {a b : Bool} (h : a = b) : Ending.returned (.bool a) = .returned (.bool b) := by rw [h]
def hv (L : List Int) : Array Value := (L.map (Value.int .u8)).toArray
structure Later (W : World) where
  world : World
  below : Below W.heap.size W world

theorem Later.ne (W : World) : Nonempty (Later W) := ⟨⟨W, Below.refl _ _⟩⟩

theorem setRow_new (w : World) (old cs : Array Value) (t : TypeId) (g : Nat) (hg : g = w.heap.size) : (w.alloc (.cells old t)).setRow g cs = w.alloc (.cells cs t) := by
  subst hg
  simp only [World.setRow, World.alloc]
  congr 1
  apply Array.ext
  · simp
  · intro k h1 h2
    simp only [Array.getElem_modify, Array.getElem_push]
    by_cases hk : k < w.heap.size
    · simp [hk, show ¬ w.heap.size = k by omega]
    · have : w.heap.size = k := by simp at h2; omega
      simp [this]

theorem heap_new (w : World) (o : Obj) (g : Nat) (hg : g = w.heap.size) : (w.alloc o).heap[g]? = some o := by rw [hg]; exact heap_alloc_new w o
end Go.Proofs.Ytbgkbegdaepkfaa
namespace Go.Proofs.Ytbgkbegdaepkfaa
open Go Go.RowKit
set_option maxRecDepth 20000

/-- A type of elements that are structs or arrays, and the type of its slices. -/
structure El where
  elem : TypeId
  slice : TypeId
  size : Nat
  bytes : Nat
  zero : Array Value
/-- What the program says of it. -/
structure El.Ok (E : El) : Prop where
  hs : Try.prog.underlying E.slice = some (.slice E.elem)
  hu : ∃ d, Try.prog.underlying E.elem = some d ∧ (match d with | .struct _ | .array _ _ => true | _ => false) = true
  hi : (Try.prog.info? E.elem).map (fun i => (i.zero, i.size, i.bytes)) = some (some (.agg E.zero), E.size, E.bytes)
  hz : E.zero.size = E.size
  hp : 0 < E.size
  hb : E.bytes ≤ 100000
  hn : E.size ≤ 100000
theorem El.Ok.info {E : El} (H : E.Ok) : ∃ i, Try.prog.info? E.elem = some i ∧ i.zero = some (.agg E.zero) ∧ i.size = E.size ∧ i.bytes = E.bytes := by
  have h1 := H.hi
  cases h : Try.prog.info? E.elem with
  | none => rw [h] at h1; simp at h1
  | some i =>
    rw [h] at h1
    simp only [Option.map_some, Option.some.injEq, Prod.mk.injEq] at h1
    exact ⟨i, rfl, h1.1, h1.2.1, h1.2.2⟩
theorem El.Ok.cellsz {E : El} (H : E.Ok) (cs : Array Value) (hc : cs.size = E.size) : (Try.prog.info? E.elem).map (·.size) = some cs.size := by
  obtain ⟨i, h1, _, h2, _⟩ := H.info
  rw [h1, Option.map_some, h2, hc]

/-- A value that is laid in cells, one each. -/
def Fits (E : El) (cs : Array Value) : Prop := cs.size = E.size ∧ cs.all (·.oneCell') = true

/-- An element that lies within a block, from a place on. -/
theorem El.Ok.load {E : El} (H : E.Ok) (w : World) (g off : Nat) (cur : Array Value) (t : TypeId) (fr : Nat × Nat) (cs : Array Value) (hcs : cs.size = E.size) (hg : w.heap[g]? = some (.cells cur t fr)) (hc : ∀ j, j < E.size → cur[off + j]? = cs[j]?) :
    (loadVar E.elem ⟨g, off, none⟩).run Try.prog w = .ok (.agg cs) w := by
  have hl : (loadCells ⟨g, off, none⟩ cs.toList.length).run Try.prog w = .ok cs.toList.toArray w :=
    run_loadCells_list (P := Try.prog) w ⟨g, off, none⟩ cs.toList (fun j v hv => by
      have hadd : (⟨g, off, none⟩ : Addr).add j = ⟨g, off + j, none⟩ := by unfold Addr.add; split <;> simp_all
      have hj : j < E.size := by
        have := (List.getElem?_eq_some_iff.1 hv).1
        rw [Array.length_toList] at this
        omega
      rw [hadd, cell_of_row w g (off + j) cur t fr hg, hc j hj]
      simpa using hv)
  obtain ⟨i, hq, _, hs, _⟩ := H.info
  have hagg : (isAgg E.elem).run Try.prog w = .ok true w := by
    obtain ⟨d, hd, hm⟩ := H.hu
    unfold isAgg
    rw [Sem.run_bind, run_underlying hd w]
    revert hm
    cases d <;> simp [go_sem]
  rw [Array.length_toList, hcs, Array.toArray_toList] at hl
  simp [loadVar, Sem.run_bind, hagg, sizeOf, typeInfo, hq, hs, hl]
theorem wl_loadE {E : El} (H : E.Ok) {ops : Array Oper} {rest : List Oper} {o : Oper} {a : Act} {w : World} {Q : Exit → Act → World → Prop} (hw : Region.wanted o (yielded ops a.tmps) = true) (x : Operand) (ho : o.op = .load E.elem x)
    (g off : Nat) (hx : a.eval x = .pointer (some ⟨g, off, none⟩)) (cur : Array Value) (t : TypeId) (fr : Nat × Nat) (cs : Array Value) (hcs : cs.size = E.size) (hg : w.heap[g]? = some (.cells cur t fr)) (hc : ∀ j, j < E.size → cur[off + j]? = cs[j]?)
    (h : wpList Try.prog ops Q rest (a.put o.dst (.agg cs)) w) : wpList Try.prog ops Q (o :: rest) a w := by
  refine wpList_step fun K hK => ?_
  rw [if_pos hw]
  unfold Oper.wp execOp
  simp only [ho, hx, Instr.loadAt, Instr.sureAddr, Sem.run_bind, Sem.run_pure, Result.andThen_ok, H.load w g off cur t fr cs hcs hg hc]
  exact hK _ _ h
theorem wl_storeE {E : El} (H : E.Ok) {ops : Array Oper} {rest : List Oper} {o : Oper} {a : Act} {w : World} {Q : Exit → Act → World → Prop} (hgd : o.guard = none) (x y : Operand) (ho : o.op = .store E.elem x y)
    (g : Nat) (cs : Array Value) (hf : Fits E cs) (hx : a.eval x = .pointer (some ⟨g, 0, none⟩)) (hy : a.eval y = .agg cs) (old : Array Value) (hg : w.heap[g]? = some (.cells old E.elem (0, 0))) (hold : old.size = E.size)
    (w' : World) (hw' : w.setRow g cs = w')
    (h : wpList Try.prog ops Q rest (a.put o.dst undef) w') : wpList Try.prog ops Q (o :: rest) a w :=
  wpList_store_row hgd E.elem x y ho g cs hx hy E.elem old hg (H.cellsz cs hf.1) (by rw [hf.1, hold]) hf.2 (by rw [hw']; exact h)
/-- The cells of a list of elements. -/
def gcells {α : Type} (enc : α → Array Value) (C : List α) : List Value := C.flatMap fun c => (enc c).toList
theorem gcells_append {α : Type} (enc : α → Array Value) (C D : List α) : gcells enc (C ++ D) = gcells enc C ++ gcells enc D := by simp [gcells]
theorem gcells_one {α : Type} (enc : α → Array Value) (c : α) : gcells enc [c] = (enc c).toList := by simp [gcells]
theorem gcells_cons {α : Type} (enc : α → Array Value) (c : α) (C : List α) : gcells enc (c :: C) = (enc c).toList ++ gcells enc C := by simp [gcells]
theorem gcells_at {α : Type} (enc : α → Array Value) (n : Nat) : ∀ (C : List α), (∀ c ∈ C, (enc c).size = n) → ∀ (i : Nat) (hi : i < C.length) (j : Nat), j < n → (gcells enc C)[n * i + j]? = (enc C[i])[j]?
  | [], _, i, hi, _, _ => absurd hi (by simp)
  | c :: C, h, 0, _, j, hj => by
    have h1 := h c (by simp)
    rw [gcells_cons, Nat.mul_zero, Nat.zero_add, List.getElem?_append_left (by rw [Array.length_toList, h1]; exact hj)]
    simp
  | c :: C, h, i + 1, hi, j, hj => by
    have h1 := h c (by simp)
    have ih := gcells_at enc n C (fun d hd => h d (by simp [hd])) i (by simpa using hi) j hj
    rw [gcells_cons, show n * (i + 1) + j = n + (n * i + j) by rw [Nat.mul_add, Nat.mul_one]; omega, List.getElem?_append_right (by rw [Array.length_toList, h1]; omega), Array.length_toList, h1, Nat.add_sub_cancel_left]
    simpa using ih

theorem gfold_get (off : Nat) : ∀ (xs : List Value) (n : Nat) (cells : Array Value) (k : Nat), off + n + xs.length ≤ cells.size →
    ((xs.zipIdx n).foldl (fun cs (x : Value × Nat) => cs.setIfInBounds (off + x.2) x.1) cells)[k]? = if off + n ≤ k ∧ k < off + n + xs.length then xs[k - (off + n)]? else cells[k]?
  | [], n, cells, k, _ => by
    simp only [List.zipIdx_nil, List.foldl_nil, List.length_nil, Nat.add_zero]
    rw [if_neg (by omega)]
  | x :: xs, n, cells, k, h => by
    simp only [List.length_cons] at h
    rw [List.zipIdx_cons, List.foldl_cons, gfold_get off xs (n + 1) _ k (by simp; omega)]
    simp only [List.length_cons]
    by_cases h1 : off + (n + 1) ≤ k ∧ k < off + (n + 1) + xs.length
    · rw [if_pos h1, if_pos (by omega), show k - (off + n) = (k - (off + (n + 1))) + 1 by omega, List.getElem?_cons_succ]
    · rw [if_neg h1]
      by_cases h2 : k = off + n
      · subst h2
        rw [if_pos (by omega), Nat.sub_self, List.getElem?_cons_zero, Array.getElem?_setIfInBounds_self_of_lt (by omega)]
      · rw [if_neg (by omega), Array.getElem?_setIfInBounds_ne (by omega)]
theorem gfold_all (xs cells : Array Value) (h : xs.size = cells.size) : xs.zipIdx.foldl (fun cs (x : Value × Nat) => cs.setIfInBounds (0 + x.2) x.1) cells = xs := by
  have e : xs.zipIdx.foldl (fun cs (x : Value × Nat) => cs.setIfInBounds (0 + x.2) x.1) cells = (xs.toList.zipIdx 0).foldl (fun cs (x : Value × Nat) => cs.setIfInBounds (0 + x.2) x.1) cells := by
    rw [← Array.foldl_toList]; simp
  rw [e]
  apply Array.ext_getElem?
  intro k
  rw [gfold_get 0 xs.toList 0 cells k (by simp; omega)]
  by_cases hk : k < xs.size
  · rw [if_pos (by simp; omega)]; simp
  · rw [if_neg (by simp; omega), Array.getElem?_eq_none (by omega), Array.getElem?_eq_none (by omega)]

set_option maxRecDepth 20000 in
/-- A slice of one element. -/
theorem wl_buildE {E : El} (H : E.Ok) {ops : Array Oper} {rest : List Oper} {o : Oper} {a : Act} {w : World} {Q : Exit → Act → World → Prop} (hg : o.guard = none) (x : Operand) (ho : o.op = .buildSlice E.slice 1 #[(0, x)]) (cs : Array Value) (hcs : cs.size = E.size) (hx : a.eval x = .agg cs)
    (h : wpList Try.prog ops Q rest (a.put o.dst (.slice (some ⟨w.heap.size, 0, none⟩) 1 1)) (w.alloc (.cells cs E.elem))) : wpList Try.prog ops Q (o :: rest) a w := by
  obtain ⟨ie, hie, hz, hs, _⟩ := H.info
  refine wpList_buildSlice hg E.slice E.elem 1 _ ho cs ie (.agg E.zero) H.hs hie hz (by rw [hs]; have := H.hn; omega) (by rw [hs]; have := H.hp; omega) ?_ h
  simp only [List.map_toArray, List.map_cons, List.map_nil, hx, Instr.fill, hs, Nat.zero_mul, Value.cells, hcs]
  rw [if_neg (by simp)]
  congr 1
  exact gfold_all _ _ (by rw [hcs]; simp)

/-- One element appended to one's own row of them, and where the new row lies. -/
theorem wl_appendE {E : El} (H : E.Ok) {α : Type} (enc : α → Array Value) {ops : Array Oper} {rest : List Oper} {o : Oper} {a : Act} {w : World} {Q : Exit → Act → World → Prop} (hgd : o.guard = none) (s x : Operand) (ho : o.op = .call { callee := .builtin .append, args := #[s, x], argTypes := #[E.slice, E.slice] })
    (base : Nat) (v : Value) (C : List α) (c : α) (hf : Fits E (enc c)) (hs : a.eval s = v) (hown : w.ownsRow base E.elem E.size v C.length (gcells enc C)) (g cap : Nat) (hx : a.eval x = .slice (some ⟨g, 0, none⟩) 1 cap) (hg : w.heap[g]? = some (.cells (enc c) E.elem (0, 0)))
    (hn : C.length ≤ 1000000) (hbase : base ≤ w.heap.size)
    (h : ∀ v' w', w'.ownsRow base E.elem E.size v' (C ++ [c]).length (gcells enc (C ++ [c])) → w.grownBy w' v.ownBlock → (v'.ownBlock = v.ownBlock ∨ v'.ownBlock = some w.heap.size) → wpList Try.prog ops Q rest (a.put o.dst v') w') : wpList Try.prog ops Q (o :: rest) a w := by
  obtain ⟨i0, hi, hz0, hz1, hz2⟩ := H.info
  have hb := H.hb
  refine wpList_append_own_at _ hgd s x E.slice ho base E.elem i0 (.agg E.zero) E.size E.bytes H.hs hi hz0 hz1 hz2 (by simpa [Value.cells] using H.hz) H.hp v _ _ hs hown ⟨g, 0, none⟩ 1 cap (enc c).toList hx (by rw [Array.length_toList, hf.1, Nat.one_mul]) (fun j y hy => ?_) (fun u hu => ?_) (by unfold maxLen; omega) ?_ hbase ?_
  · have hadd : (⟨g, 0, none⟩ : Addr).add j = ⟨g, j, none⟩ := by unfold Addr.add; split <;> simp_all
    rw [hadd, cell_of_row w g j _ _ _ hg, ← hy]
    simp
  · exact (Array.all_eq_true_iff_forall_mem.1 hf.2) u (by simpa using hu)
  · exact Nat.le_trans (Nat.mul_le_mul (show C.length + 1 ≤ 1000001 by omega) hb) (by decide)
  · intro v' w' h5 h6 _ h7
    refine h v' w' ?_ h6 h7
    rw [List.length_append, gcells_append, gcells_one]; exact h5

/-- A slice, wherever it lies, whose elements are these. -/
def GSl {α : Type} (E : El) (enc : α → Array Value) (w : World) (v : Value) (C : List α) : Prop :=
  ∃ (o : Option Addr) (cap : Nat), v = .slice o C.length cap ∧ C.length ≤ cap ∧ cap ≤ maxLen ∧ ∀ (i : Nat) (hi : i < C.length), ∃ g off cur t fr, o = some ⟨g, off, none⟩ ∧ w.heap[g]? = some (.cells cur t fr) ∧ ∀ j, j < E.size → cur[off + i * E.size + j]? = (enc C[i])[j]?
theorem GSl.below {α : Type} {E : El} {enc : α → Array Value} {w w' : World} {v : Value} {C : List α} (h : GSl E enc w v C) (hb : Below w.heap.size w w') : GSl E enc w' v C := by
  obtain ⟨o, cap, rfl, h1, h2, h3⟩ := h
  refine ⟨o, cap, rfl, h1, h2, fun i hi => ?_⟩
  obtain ⟨g, off, cur, t, fr, h4, h5, h6⟩ := h3 i hi
  exact ⟨g, off, cur, t, fr, h4, (hb.block g (Array.getElem?_eq_some_iff.1 h5).1).trans h5, h6⟩
theorem GSl.slice {α : Type} {E : El} {enc : α → Array Value} {w : World} {v : Value} {C : List α} (h : GSl E enc w v C) : ∃ (o : Option Addr) (cap : Nat), v = .slice o C.length cap ∧ C.length ≤ cap ∧ cap ≤ maxLen := by
  obtain ⟨o, cap, h1, h2, h3, _⟩ := h
  exact ⟨o, cap, h1, h2, h3⟩
theorem GSl.at {α : Type} {E : El} {enc : α → Array Value} {w : World} {o : Option Addr} {n cap : Nat} {C : List α} (h : GSl E enc w (.slice o n cap) C) (k : Nat) (hk : k < n) :
    ∃ g off cur t fr, ∃ c : α, o = some ⟨g, off, none⟩ ∧ w.heap[g]? = some (.cells cur t fr) ∧ (∀ j, j < E.size → cur[off + k * E.size + j]? = (enc c)[j]?) ∧ C[k]? = some c := by
  obtain ⟨o', cap', h1, _, _, h3⟩ := h
  simp only [Value.slice.injEq] at h1
  obtain ⟨rfl, rfl, rfl⟩ := h1
  obtain ⟨g, off, cur, t, fr, h4, h5, h6⟩ := h3 k hk
  exact ⟨g, off, cur, t, fr, C[k], h4, h5, h6, List.getElem?_eq_getElem hk⟩
theorem gsl_of {α : Type} {E : El} {enc : α → Array Value} {w : World} {B : Nat} {v : Value} {C : List α} (h : w.ownsRow B E.elem E.size v C.length (gcells enc C)) (hC : ∀ c ∈ C, (enc c).size = E.size) : GSl E enc w v C := by
  obtain ⟨h1, ⟨rfl, h2⟩ | ⟨g, cap, cur, rfl, hB, hcur, h5, h6, _, h4⟩⟩ := h
  · exact ⟨none, 0, by rw [h2], by omega, Nat.zero_le _, fun i hi => by omega⟩
  · refine ⟨_, cap, rfl, h5, h6, fun i hi => ⟨g, 0, cur, _, _, rfl, hcur, fun j hj => ?_⟩⟩
    have hlt : E.size * i + j < C.length * E.size := by
      have : E.size * (i + 1) ≤ E.size * C.length := Nat.mul_le_mul_left _ hi
      rw [Nat.mul_add, Nat.mul_one] at this
      rw [Nat.mul_comm C.length]
      omega
    rw [← gcells_at enc E.size C hC i hi j hj, ← h4, List.getElem?_take_of_lt hlt, Nat.zero_add, Nat.mul_comm]
    simp
theorem gsl_nil {α : Type} (E : El) (enc : α → Array Value) (w : World) : GSl E enc w (.slice none 0 0) [] := ⟨none, 0, rfl, Nat.le_refl _, Nat.zero_le _, fun i hi => absurd hi (by simp)⟩
theorem gown_below {w w' : World} {B : Nat} {e : TypeId} {s : Nat} {v : Value} {n : Nat} {xs : List Value} (h : w.ownsRow B e s v n xs) (hb : Below w.heap.size w w') : w'.ownsRow B e s v n xs := by
  obtain ⟨h1, h2 | ⟨g, cap, cur, rfl, hB, hcur, h3⟩⟩ := h
  · exact ⟨h1, .inl h2⟩
  · exact ⟨h1, .inr ⟨g, cap, cur, rfl, hB, (hb.block g (Array.getElem?_eq_some_iff.1 hcur).1).trans hcur, h3⟩⟩
theorem gown_base {w : World} {B B' : Nat} {e : TypeId} {s : Nat} {v : Value} {n : Nat} {xs : List Value} (h : w.ownsRow B e s v n xs) (hB' : B' ≤ B) : w.ownsRow B' e s v n xs := by
  obtain ⟨h1, h2 | ⟨g', cap, cur, rfl, hB, h3⟩⟩ := h
  · exact ⟨h1, .inl h2⟩
  · exact ⟨h1, .inr ⟨g', cap, cur, rfl, by omega, h3⟩⟩
end Go.Proofs.Ytbgkbegdaepkfaa
namespace Go.Proofs.Ytbgkbegdaepkfaa
open Go Go.RowKit
set_option maxRecDepth 20000

/-- All blocks but these are as they were. -/
structure Kept (X : Nat → Prop) (w w' : World) : Prop where
  os : w'.os = w.os
  tape : w'.tape = w.tape
  output : w'.output = w.output
  size : w.heap.size ≤ w'.heap.size
  block : ∀ k, k < w.heap.size → ¬ X k → w'.heap[k]? = w.heap[k]?
theorem Kept.refl (X : Nat → Prop) (w : World) : Kept X w w := ⟨rfl, rfl, rfl, Nat.le_refl _, fun _ _ _ => rfl⟩
theorem Kept.of_below {X : Nat → Prop} {w w' : World} (h : Below w.heap.size w w') : Kept X w w' := ⟨h.os, h.tape, h.output, h.size, fun k hk _ => h.block k hk⟩
theorem Kept.of_grown {X : Nat → Prop} {w w' : World} {row : Option Nat} (h : w.grownBy w' row) (hr : ∀ k, row = some k → X k) : Kept X w w' :=
  ⟨h.os, h.tape, h.output, h.size, fun k hk hX => h.block k hk fun e => hX (hr k e.symm)⟩
theorem Kept.trans {X Y : Nat → Prop} {w w1 w2 : World} (h : Kept X w w1) (h' : Kept Y w1 w2) (hY : ∀ k, Y k → X k ∨ w.heap.size ≤ k) : Kept X w w2 :=
  ⟨h'.os.trans h.os, h'.tape.trans h.tape, h'.output.trans h.output, Nat.le_trans h.size h'.size, fun k hk hX => by
    rw [h'.block k (Nat.lt_of_lt_of_le hk h.size) (fun hy => by rcases hY k hy with e | e; exact hX e; omega)]
    exact h.block k hk hX⟩
theorem Kept.mono {X Y : Nat → Prop} {w w' : World} (h : Kept X w w') (hXY : ∀ k, k < w.heap.size → X k → Y k) : Kept Y w w' := ⟨h.os, h.tape, h.output, h.size, fun k hk hY => h.block k hk fun hX => hY (hXY k hk hX)⟩
theorem Kept.below {X : Nat → Prop} {w w' : World} {B : Nat} (h : Kept X w w') (hX : ∀ k, X k → B ≤ k) (hB : B ≤ w.heap.size) : Below B w w' :=
  ⟨h.os, h.tape, h.output, h.size, fun k hk => h.block k (by omega) fun hx => by have := hX k hx; omega⟩
theorem Kept.add {X : Nat → Prop} {w w1 w2 : World} (h : Kept X w w1) (h' : Below w1.heap.size w1 w2) : Kept X w w2 := h.trans (Y := fun _ => False) (Kept.of_below h') fun _ h => h.elim
theorem Kept.pre {X : Nat → Prop} {w w1 w2 : World} (h : Below w.heap.size w w1) (h' : Kept X w1 w2) : Kept X w w2 := (Kept.of_below (X := X) h).trans h' fun _ hk => .inl hk
theorem Kept.heap {X : Nat → Prop} {w w' : World} {k : Nat} {o : Obj} (h : Kept X w w') (hk : w.heap[k]? = some o) (hX : ¬ X k) : w'.heap[k]? = some o := (h.block k (Array.getElem?_eq_some_iff.1 hk).1 hX).trans hk
theorem Kept.own {X : Nat → Prop} {w w' : World} (h : Kept X w w') {B : Nat} {e : TypeId} {s : Nat} {v : Value} {n : Nat} {xs : List Value} (ho : w.ownsRow B e s v n xs) (hX : ∀ k, v.ownBlock = some k → ¬ X k) : w'.ownsRow B e s v n xs := by
  obtain ⟨h1, h2 | ⟨g, cap, cur, rfl, hB, hcur, h3⟩⟩ := ho
  · exact ⟨h1, .inl h2⟩
  · exact ⟨h1, .inr ⟨g, cap, cur, rfl, hB, h.heap hcur (hX g rfl), h3⟩⟩

/-- Two rows lie apart. -/
def ApartR (a b : Option Nat) : Prop := a = none ∨ b = none ∨ a ≠ b
theorem ApartR.symm {a b : Option Nat} (h : ApartR a b) : ApartR b a := by
  rcases h with h | h | h
  · exact .inr (.inl h)
  · exact .inl h
  · exact .inr (.inr fun e => h e.symm)
theorem ApartR.ne {a b : Option Nat} (h : ApartR a b) : ∀ k, a = some k → b ≠ some k := by
  intro k ha hb
  subst ha
  subst hb
  rcases h with h | h | h
  · cases h
  · cases h
  · exact h rfl
theorem below_step {B : Nat} {w wr w' : World} (hb : Below B w wr) (hB : B ≤ wr.heap.size) (h : Below wr.heap.size wr w') : Below B w w' := hb.trans (h.mono hB)
def isB (g : Nat) (k : Nat) : Prop := k = g
def rowX (v : Value) (k : Nat) : Prop := v.ownBlock = some k
end Go.Proofs.Ytbgkbegdaepkfaa
namespace Go.Proofs.Ytbgkbegdaepkfaa
open Go Go.RowKit
set_option maxRecDepth 20000

/-! What a call on a state that lies in certain blocks (its foot) leaves. -/
structure Frm (F F' : Nat → Prop) (w w' : World) : Prop where
  kept : Kept F w w'
  foot : ∀ k, F' k → F k ∨ w.heap.size ≤ k
theorem Frm.of_below {F : Nat → Prop} {w w' : World} (h : Below w.heap.size w w') : Frm F F w w' := ⟨Kept.of_below h, fun _ e => .inl e⟩
theorem Frm.refl (F : Nat → Prop) (w : World) : Frm F F w w := ⟨Kept.refl _ _, fun _ e => .inl e⟩
theorem Frm.trans {F F1 F2 : Nat → Prop} {w w1 w2 : World} (h : Frm F F1 w w1) (h' : Frm F1 F2 w1 w2) : Frm F F2 w w2 :=
  ⟨h.kept.trans h'.kept h.foot, fun k e => by
    rcases h'.foot k e with e | e
    · exact h.foot k e
    · exact .inr (Nat.le_trans h.kept.size e)⟩
theorem Frm.add {F F' : Nat → Prop} {w w1 w2 : World} (h : Frm F F' w w1) (hb : Below w1.heap.size w1 w2) : Frm F F' w w2 := h.trans (Frm.of_below hb)
theorem Frm.pre {F F' : Nat → Prop} {w w1 w2 : World} (hb : Below w.heap.size w w1) (h : Frm F F' w1 w2) : Frm F F' w w2 := (Frm.of_below hb).trans h
def orF (F G : Nat → Prop) (k : Nat) : Prop := F k ∨ G k
theorem Frm.left {F F' : Nat → Prop} {w w' : World} (h : Frm F F' w w') (G : Nat → Prop) : Frm (orF F G) (orF F' G) w w' :=
  ⟨h.kept.mono fun _ _ e => .inl e, fun k e => by
    rcases e with e | e
    · rcases h.foot k e with e | e
      · exact .inl (.inl e)
      · exact .inr e
    · exact .inl (.inr e)⟩
theorem Frm.right {G G' : Nat → Prop} {w w' : World} (h : Frm G G' w w') (F : Nat → Prop) : Frm (orF F G) (orF F G') w w' :=
  ⟨h.kept.mono fun _ _ e => .inr e, fun k e => by
    rcases e with e | e
    · exact .inl (.inl e)
    · rcases h.foot k e with e | e
      · exact .inl (.inr e)
      · exact .inr e⟩
theorem Frm.apart {F F' G : Nat → Prop} {w w' : World} (h : Frm F F' w w') (hG : ∀ k, G k → k < w.heap.size) (ha : ∀ k, F k → ¬ G k) : ∀ k, F' k → ¬ G k := fun k e e' => by
  rcases h.foot k e with e1 | e1
  · exact ha k e1 e'
  · have := hG k e'; omega
/-- Blocks outside the foot stay. -/
theorem Frm.heap {F F' : Nat → Prop} {w w' : World} (h : Frm F F' w w') {k : Nat} {o : Obj} (hk : w.heap[k]? = some o) (hF : ¬ F k) : w'.heap[k]? = some o := h.kept.heap hk hF
/-- Worlds in which a block stays. -/
structure KeepB (p : Nat) (ob : Obj) where
  world : World
  k1 : world.heap[p]? = some ob
abbrev InB (p : Nat) (ob : Obj) (w : World) : Prop := ∃ z : KeepB p ob, w = z.world
theorem InB.of {w : World} {p : Nat} {ob : Obj} (h : w.heap[p]? = some ob) : InB p ob w := ⟨⟨w, h⟩, rfl⟩
end Go.Proofs.Ytbgkbegdaepkfaa
namespace Go.Proofs.Ytbgkbegdaepkfaa
open Go
set_option maxRecDepth 20000

/-! Letters on their way (layer 17): one row of all letters, in the order in which they came to be; a link is what of it goes from one address to another. -/
structure LetM where
  src : Int
  dst : Int
  data : List UInt8
  no : Nat
/-- Where the i-th of those that fit stands. -/
def placeP {α : Type} (p : α → Bool) : List α → Nat → Option Nat
  | [], _ => none
  | x :: l, i => if p x then (match i with | 0 => some 0 | i + 1 => (placeP p l i).map (· + 1)) else (placeP p l i).map (· + 1)
theorem place_none {α : Type} {p : α → Bool} : ∀ {l : List α} {i : Nat}, placeP p l i = none ↔ (l.filter p).length ≤ i
  | [], i => by simp [placeP]
  | x :: l, i => by
    unfold placeP
    cases hp : p x with
    | true =>
      rw [if_pos rfl, List.filter_cons_of_pos hp, List.length_cons]
      cases i with
      | zero => simp
      | succ i => dsimp only; rw [Option.map_eq_none_iff, place_none]; omega
    | false =>
      rw [if_neg (by simp), List.filter_cons_of_neg (by simp [hp]), Option.map_eq_none_iff, place_none]
theorem place_some {α : Type} {p : α → Bool} : ∀ {l : List α} {i j : Nat}, placeP p l i = some j → ∃ x, l[j]? = some x ∧ p x = true ∧ (l.filter p)[i]? = some x ∧ (l.eraseIdx j).filter p = (l.filter p).eraseIdx i ∧ ((l.take j).filter p).length = i
  | [], i, j, h => by simp [placeP] at h
  | x :: l, i, j, h => by
    unfold placeP at h
    cases hp : p x with
    | true =>
      rw [hp, if_pos rfl] at h
      cases i with
      | zero =>
        dsimp only at h
        obtain rfl := Option.some.inj h
        refine ⟨x, rfl, hp, ?_, ?_, rfl⟩
        · rw [List.filter_cons_of_pos hp]; rfl
        · rw [List.filter_cons_of_pos hp]; rfl
      | succ i =>
        dsimp only at h
        obtain ⟨k, hk, rfl⟩ := Option.map_eq_some_iff.1 h
        obtain ⟨y, h1, h2, h3, h4, h5⟩ := place_some hk
        refine ⟨y, h1, h2, ?_, ?_, ?_⟩
        · rw [List.filter_cons_of_pos hp]; exact h3
        · rw [List.eraseIdx_cons_succ, List.filter_cons_of_pos hp, List.filter_cons_of_pos hp, List.eraseIdx_cons_succ, h4]
        · rw [List.take_succ_cons, List.filter_cons_of_pos hp, List.length_cons, h5]
    | false =>
      rw [hp, if_neg (by simp)] at h
      obtain ⟨k, hk, rfl⟩ := Option.map_eq_some_iff.1 h
      obtain ⟨y, h1, h2, h3, h4, h5⟩ := place_some hk
      have hn : ¬ p x = true := by simp [hp]
      refine ⟨y, h1, h2, ?_, ?_, ?_⟩
      · rw [List.filter_cons_of_neg hn]; exact h3
      · rw [List.eraseIdx_cons_succ, List.filter_cons_of_neg hn, List.filter_cons_of_neg hn, h4]
      · rw [List.take_succ_cons, List.filter_cons_of_neg hn, h5]
theorem place_first {α : Type} {p : α → Bool} {x : α} {l : List α} (h : p x = true) : placeP p (x :: l) 0 = some 0 := by
  unfold placeP
  rw [if_pos h]
/-- What is taken out of one link changes no other. -/
theorem filter_erase_other {α : Type} {q : α → Bool} : ∀ {l : List α} {j : Nat} {x : α}, l[j]? = some x → q x = false → (l.eraseIdx j).filter q = l.filter q
  | [], j, x, h, _ => by simp at h
  | y :: l, 0, x, h, hq => by
    obtain rfl : y = x := by simpa using h
    rw [List.filter_cons_of_neg (by simp [hq])]; rfl
  | y :: l, j + 1, x, h, hq => by
    have ih := filter_erase_other (l := l) (j := j) (x := x) (by simpa using h) hq
    rw [List.eraseIdx_cons_succ]
    cases hy : q y with
    | true => rw [List.filter_cons_of_pos hy, List.filter_cons_of_pos hy, ih]
    | false => rw [List.filter_cons_of_neg (by simp [hy]), List.filter_cons_of_neg (by simp [hy]), ih]
theorem filter_snoc {α : Type} (q : α → Bool) (l : List α) (x : α) : (l ++ [x]).filter q = l.filter q ++ (if q x then [x] else []) := by
  rw [List.filter_append]
  congr 1
  cases h : q x with
  | true => rw [List.filter_cons_of_pos h]; rfl
  | false => rw [List.filter_cons_of_neg (by simp [h])]; rfl

structure NetM where
  nodes : Int
  room : Int
  row : List LetM
  last : Nat
def onL (f t : Int) (x : LetM) : Bool := x.src == f && x.dst == t
def isL (n : NetM) (f t : Int) : Bool := decide (0 ≤ f) && decide (f ≤ n.nodes) && decide (0 ≤ t) && decide (t ≤ n.nodes)
def linkL (n : NetM) (f t : Int) : List LetM := n.row.filter (onL f t)
def countL (n : NetM) (f t : Int) : Nat := (linkL n f t).length
/-- A letter more. -/
def putNt (n : NetM) (f t : Int) (s : List UInt8) : NetM := { n with row := n.row ++ [⟨f, t, s, n.last + 1⟩], last := n.last + 1 }
def sendN (n : NetM) (f t : Int) (s : List UInt8) : NetM × Int := if isL n f t = true then if n.room ≤ countL n f t then (n, 13) else (putNt n f t s, 0) else (n, 1)
/-- Where the letter at a place of a link stands (places below 0: nowhere). -/
def placeL (n : NetM) (f t i : Int) : Option Nat := if 0 ≤ i then placeP (onL f t) n.row i.toNat else none
def peekN (n : NetM) (f t i : Int) : List UInt8 × Int := if isL n f t = true then (match placeL n f t i with | some j => ((n.row[j]?.map (·.data)).getD [], 0) | none => ([], 14)) else ([], 1)
def takeN (n : NetM) (f t i : Int) : NetM × List UInt8 × Int := if isL n f t = true then (match placeL n f t i with | some j => ({ n with row := n.row.eraseIdx j }, (n.row[j]?.map (·.data)).getD [], 0) | none => (n, [], 14)) else (n, [], 1)
def twiceN (n : NetM) (f t i : Int) : NetM × Int := if (peekN n f t i).2 = 0 then sendN n f t (peekN n f t i).1 else (n, (peekN n f t i).2)
def oldN (n : NetM) : Int × Int × Bool := match n.row with | x :: _ => (x.src, x.dst, true) | [] => (0, 0, false)
def newN (nodes room : Int) : Option NetM := if 0 ≤ nodes ∧ nodes ≤ 6 ∧ 1 ≤ room ∧ room ≤ 512 then some ⟨nodes, room, [], 0⟩ else none

/-- What holds of a net whatever is done. -/
structure NetOk (n : NetM) : Prop where
  room1 : 1 ≤ n.room
  count : ∀ f t, (countL n f t : Int) ≤ n.room
  src : ∀ x ∈ n.row, isL n x.src x.dst = true
  rise : n.row.Pairwise (fun x y => x.no < y.no)
  le : ∀ x ∈ n.row, x.no ≤ n.last
theorem new_ok {nodes room : Int} {n : NetM} (h : newN nodes room = some n) : NetOk n := by
  unfold newN at h
  split at h
  · rename_i hc
    obtain rfl := Option.some.inj h
    exact ⟨hc.2.2.1, fun f t => by unfold countL linkL; simp; omega, fun x hx => absurd hx (List.not_mem_nil), List.Pairwise.nil, fun x hx => absurd hx (List.not_mem_nil)⟩
  · cases h
theorem put_ok {n : NetM} (h : NetOk n) {f t : Int} (hl : isL n f t = true) (hc : (countL n f t : Int) < n.room) (s : List UInt8) : NetOk (putNt n f t s) := by
  refine ⟨h.room1, fun f' t' => ?_, fun x hx => ?_, ?_, fun x hx => ?_⟩
  · have h1 := h.count f' t'
    have h2 : countL (putNt n f t s) f' t' = countL n f' t' + (if onL f' t' ⟨f, t, s, n.last + 1⟩ then 1 else 0) := by
      unfold countL linkL putNt
      dsimp only
      rw [filter_snoc, List.length_append]
      congr 1
      split <;> rfl
    rw [h2]
    show ((countL n f' t' + (if onL f' t' ⟨f, t, s, n.last + 1⟩ then 1 else 0) : Nat) : Int) ≤ n.room
    split
    · rename_i e
      unfold onL at e
      simp only [Bool.and_eq_true, beq_iff_eq] at e
      obtain ⟨rfl, rfl⟩ := e
      omega
    · omega
  · rcases List.mem_append.1 hx with hx | hx
    · exact h.src x hx
    · obtain rfl : x = ⟨f, t, s, n.last + 1⟩ := by simpa using hx
      exact hl
  · refine List.pairwise_append.2 ⟨h.rise, List.pairwise_singleton _ _, fun x hx y hy => ?_⟩
    obtain rfl : y = ⟨f, t, s, n.last + 1⟩ := by simpa using hy
    have := h.le x hx
    dsimp only
    omega
  · rcases List.mem_append.1 hx with hx | hx
    · have := h.le x hx
      show x.no ≤ n.last + 1
      omega
    · obtain rfl : x = ⟨f, t, s, n.last + 1⟩ := by simpa using hx
      exact Nat.le_refl _
theorem erase_ok {n : NetM} (h : NetOk n) (j : Nat) : NetOk { n with row := n.row.eraseIdx j } := by
  have hs : (n.row.eraseIdx j).Sublist n.row := List.eraseIdx_sublist _ _
  refine ⟨h.room1, fun f t => ?_, fun x hx => h.src x (hs.subset hx), h.rise.sublist hs, fun x hx => h.le x (hs.subset hx)⟩
  have := h.count f t
  have h2 : ((n.row.eraseIdx j).filter (onL f t)).length ≤ (n.row.filter (onL f t)).length := (hs.filter _).length_le
  unfold countL linkL at this ⊢
  dsimp only at h2 ⊢
  omega
/-- What else there is stays (NetBounds): all letters but those of the link. -/
def restL (n : NetM) (f t : Int) : List LetM := n.row.filter fun x => !(onL f t x)
theorem rest_len (n : NetM) (f t : Int) : n.row.length = countL n f t + (restL n f t).length := by
  unfold countL linkL restL
  induction n.row with
  | nil => rfl
  | cons x l ih =>
    cases h : onL f t x with
    | true => rw [List.filter_cons_of_pos h, List.filter_cons_of_neg (by simp [h]), List.length_cons, List.length_cons, ih]; omega
    | false => rw [List.filter_cons_of_neg (by simp [h]), List.filter_cons_of_pos (by simp [h]), List.length_cons, List.length_cons, ih]; omega
theorem put_rest (n : NetM) (f t : Int) (s : List UInt8) : restL (putNt n f t s) f t = restL n f t := by
  unfold restL putNt
  dsimp only
  rw [filter_snoc]
  have : onL f t ⟨f, t, s, n.last + 1⟩ = true := by unfold onL; simp
  rw [this]
  simp
theorem send_rest (n : NetM) (f t : Int) (s : List UInt8) : restL (sendN n f t s).1 f t = restL n f t := by
  unfold sendN
  split
  · split
    · rfl
    · exact put_rest n f t s
  · rfl
theorem take_rest (n : NetM) (f t i : Int) : restL (takeN n f t i).1 f t = restL n f t := by
  unfold takeN
  split
  · split
    · rename_i j hj
      unfold placeL at hj
      split at hj
      · obtain ⟨x, h1, h2, _⟩ := place_some hj
        exact filter_erase_other h1 (by rw [h2]; rfl)
      · cases hj
    · rfl
  · rfl
theorem twice_rest (n : NetM) (f t i : Int) : restL (twiceN n f t i).1 f t = restL n f t := by
  unfold twiceN
  split
  · exact send_rest n f t _
  · rfl
/-- The oldest letter stands at the front of its link; it is taken (NetDrains). -/
theorem old_take {n : NetM} (h : NetOk n) {x : LetM} {l : List LetM} (hr : n.row = x :: l) : oldN n = (x.src, x.dst, true) ∧ takeN n x.src x.dst 0 = ({ n with row := l }, x.data, 0) := by
  have hx : onL x.src x.dst x = true := by unfold onL; simp
  refine ⟨by unfold oldN; rw [hr], ?_⟩
  unfold takeN placeL
  rw [h.src x (by rw [hr]; exact List.mem_cons_self), if_pos rfl, if_pos (Int.le_refl 0), hr, Int.toNat_zero, place_first hx]
  rfl
end Go.Proofs.Ytbgkbegdaepkfaa
namespace Go.Proofs.Ytbgkbegdaepkfaa
open Go
set_option maxRecDepth 20000

/-- A token. -/
structure Tok where
  kind : Nat
  pos : Nat
  text : List UInt8
  num : Nat

end Go.Proofs.Ytbgkbegdaepkfaa
namespace Go.Proofs.Ytbgkbegdaepkfaa
open Go Go.RowKit
set_option maxRecDepth 20000

end Go.Proofs.Ytbgkbegdaepkfaa
/-
  The library's contract of stringslite.Clone, laid at this seat's program, and strings.Clone above it.
-/
namespace Go.Proofs
open Go.Shelf
set_option maxRecDepth 20000
def Try.lays316_ren : Go.Shelf.Ren := ⟨fun | 316 => 30 | n => n, fun | 37 => 62 | 127 => 63 | n => n, fun | n => n⟩
theorem Try.lays316 : Go.Proofs.LaysM.n316 Try.prog Try.lays316_ren := {
  mixed := by kernel_rfl
  f316 := Try.func30.trans (congrArg some (by kernel_rfl))
  t0 := Try.underlying0
  a0 := Try.isAgg0
  z0 := Try.sizeOf0
  v0 := Try.zeroValue0
  t3 := Try.underlying3
  a3 := Try.isAgg3
  z3 := Try.sizeOf3
  v3 := Try.zeroValue3
  t4 := Try.underlying4
  a4 := Try.isAgg4
  z4 := Try.sizeOf4
  v4 := Try.zeroValue4
  t5 := Try.underlying5
  a5 := Try.isAgg5
  z5 := Try.sizeOf5
  v5 := Try.zeroValue5
  t9 := Try.underlying9
  a9 := Try.isAgg9
  z9 := Try.sizeOf9
  v9 := Try.zeroValue9
  t37 := Try.underlying62
  a37 := Try.isAgg62
  z37 := Try.sizeOf62
  v37 := Try.zeroValue62
  t127 := Try.underlying63
  a127 := Try.isAgg63
  z127 := Try.sizeOf63
  v127 := Try.zeroValue63
  i0 := by kernel_rfl
  i3 := by kernel_rfl
  i4 := by kernel_rfl
  i5 := by kernel_rfl
  i9 := by kernel_rfl
  i37 := by kernel_rfl
  i127 := by kernel_rfl }
namespace Ytbgkbegdaepkfaa
open Go Go.RowKit

theorem clone_in (s : ByteArray) (w : World) (hlim : s.size ≤ 281474976710656) :
    Calls Try.prog 30 #[.string s] w fun e w' => e = .returned (.string s) ∧ Below w.heap.size w w' := Any.stringslite_Clone Try.lays316 s w hlim

theorem clone_any (s : ByteArray) (w : World) (hlim : s.size ≤ 281474976710656) :
    Calls Try.prog 25 #[.string s] w fun e w' => e = .returned (.string s) ∧ Below w.heap.size w w' := by
  have C : Hid (∀ W, Calls Try.prog 30 #[.string s] W fun e w' => e = .returned (.string s) ∧ Below W.heap.size W w') := fun W => clone_in s W hlim
  clear hlim
  go_enter Try.func25, Try.ntmps25
  go_wp2_with fail
  refine (C.out _).mono ?_
  rintro e w1 ⟨rfl, hb1⟩
  go_wp2_with fail
  go_ret
  exact ⟨rfl, hb1⟩
end Ytbgkbegdaepkfaa
end Go.Proofs
namespace Go.Proofs.Ytbgkbegdaepkfaa
open Go Go.RowKit
set_option maxRecDepth 20000

/-- Where a walk stands still. -/
def StopT (p : Prop) : Prop := p
theorem of_stopT {p : Prop} (h : StopT p) : p := h
end Go.Proofs.Ytbgkbegdaepkfaa
