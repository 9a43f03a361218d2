import Derived.Test.YtagogbodkbbikaaRows
import Derived.Test.YtagogbodkbbikaaProg
import Derived.ProofKit
import Derived.OpenShut
import Derived.Carry
import Derived.WalkKit
import Derived.WalkSpells
import Derived.WalkLawsBesides
import Derived.BigQuiet
import Derived.KernelRfl
import Derived.Laws.StructEq
import Derived.Laws.Tables
import Derived.Laws.Rows
import Derived.Great.BuildSlice
import Derived.Laws.AppendOwn
import Derived.Laws.OwnMore
import Derived.Maps.AppendAt
import Derived.OwnWalk
import Derived.Lib.Bytealg
import Derived.Lib.UnsafeStr
import Derived.Lib.BufferWrite
import Derived.Laws.MakeOwn
import Derived.Deep.RegionLaw
import Derived.Shelf.RegionOpenPlain
namespace Go.Proofs.Ytagogbodkbbikaa
open Go.ChangeShapes Go.WideShapes Go.ChangeAt Go.WideMaps Go.WideElems Go.RowKit
set_option maxRecDepth 20000

theorem ownK : ownKnob Try.prog.godebug = none := by kernel_rfl
theorem laidK : laidOutB Try.prog = true := by kernel_rfl
end Go.Proofs.Ytagogbodkbbikaa
namespace Go.Proofs.Ytagogbodkbbikaa
open Go Go.RowKit
set_option maxRecDepth 20000

def hv (L : List Int) : Array Value := (L.map (Value.int .u8)).toArray
def Byt (L : List Int) : Prop := L.length = 13 ∧ ∀ k, 0 ≤ L.getD k 0 ∧ L.getD k 0 < 256

theorem hv_size (L : List Int) : (hv L).size = L.length := by simp [hv]
theorem hv_at (L : List Int) (hL : L.length = 13) (k : Nat) (hk : k < 13) : (hv L)[k]? = some (.int .u8 (L.getD k 0)) := by
  unfold hv
  simp [List.getElem?_map, List.getElem?_eq_getElem (show k < L.length by omega), List.getD]
theorem part5 (L : List Int) (hL : L.length = 13) (k : Nat) (hk : k < 13) (w : World) : (part 5 (hv L) k).run Try.prog w = .ok (.int .u8 (L.getD k 0)) w := by
  have u5 := Try.underlying5
  have hx := hv_at L hL k hk
  have hz : ∀ w, (sizeOf 5).run Try.prog w = .ok 1 w := fun w => by kernel_rfl
  have ha : ∀ w, (isAgg 5).run Try.prog w = .ok false w := fun w => by kernel_rfl
  simp [part, ha, hx, Sem.run_bind]

theorem loopN (d : Nat) (L M : List Int) (hL : L.length = 13) (hM : M.length = 13) (w : World) (k : Option Bool × Unit → World → Result Bool) (k1 : k (some false, ()) w = .ok false w) (k2 : k (none, ()) w = .ok true w) : ∀ (is : List Nat), (∀ i ∈ is, i < 13) →
    ((forIn is ((none, ()) : Option Bool × Unit) fun i (_ : Option Bool × Unit) => (do
            if !(← Op.equalIn (d + 1) 5 (← part 5 (hv L) (i * 1)) (← part 5 (hv M) (i * 1))) then pure (ForInStep.done (some false, ())) else pure (ForInStep.yield (none, ())) : Sem (ForInStep (Option Bool × Unit)))).run Try.prog w).andThen k = .ok (is.all fun i => L.getD i 0 == M.getD i 0) w := by
  intro is
  induction is with
  | nil => intro _; simpa using k2
  | cons i is ih =>
    intro h
    have hi := h i (by simp)
    have ih' := ih (fun j hj => h j (by simp [hj]))
    have e : (Op.equalIn (d + 1) 5 (.int .u8 (L.getD i 0)) (.int .u8 (M.getD i 0))).run Try.prog w = .ok (L.getD i 0 == M.getD i 0) w := run_equalIn_int w d 5 .u8 .u8 _ _ Try.underlying5
    simp only [List.forIn_cons, Sem.run_bind, Nat.mul_one, part5 L hL i hi, part5 M hM i hi, Result.andThen_ok, e]
    by_cases hc : (L.getD i 0 == M.getD i 0) = true
    · simp only [hc, Bool.not_true, Bool.false_eq_true, if_false, Sem.run_pure, Result.andThen_ok, List.all_cons, Bool.true_and]
      simpa only [Sem.run_bind, Nat.mul_one] using ih'
    · have hc' : (L.getD i 0 == M.getD i 0) = false := by simpa using hc
      simp only [hc', Bool.not_false, if_true, Sem.run_pure, Result.andThen_ok, List.all_cons, Bool.false_and]
      exact k1

theorem all_eq (L M : List Int) (hL : L.length = 13) (hM : M.length = 13) : ((List.range' 0 13).all fun i => L.getD i 0 == M.getD i 0) = (L == M) := by
  rw [Bool.eq_iff_iff]
  simp only [List.all_eq_true, List.mem_range'_1, beq_iff_eq]
  constructor
  · intro h
    apply List.ext_getElem (by omega)
    intro k h1 h2
    have := h k ⟨by omega, by omega⟩
    simpa [List.getD, h1, h2] using this
  · rintro rfl k _; rfl

structure Later (W : World) where
  world : World
  below : Below W.heap.size W world

theorem Later.ne (W : World) : Nonempty (Later W) := ⟨⟨W, Below.refl _ _⟩⟩

theorem wp_region_later {P : Program} {id : Nat} {Q : Exit → Act → World → Prop} {a : Act} {w : World} {l : List Oper} (hm : P.follows .mixedOrders = true) (hB : Region.lexB .any l.toArray = true)
    (h : wpQuiet P l.toArray (fun w' => ∃ u : Later w, w' = u.world) (fun a' => ∀ w', (∃ u : Later w, w' = u.world) → Q .normal a' w') l a) : (Code.region id l.toArray true).wp P Q a w :=
  wp_region_quiet (C := fun w' => ∃ u : Later w, w' = u.world) hm hB ⟨⟨w.drew, (Below.refl _ _).drew⟩, rfl⟩ (by simpa using h)

theorem later_block {W : World} {g : Nat} {o : Obj} (h : W.heap[g]? = some o) : ∀ w', (∃ u : Later W, w' = u.world) → w'.heap[g]? = some o := by
  rintro w' ⟨u, rfl⟩
  have hlt : g < W.heap.size := by
    rcases Array.getElem?_eq_some_iff.1 h with ⟨hl, _⟩
    exact hl
  rw [u.below.block g hlt, h]

theorem size26 (L : List Int) (hL : L.length = 13) : (Try.prog.info? 32).map (·.size) = some (hv L).size := by
  rw [hv_size, hL]; kernel_rfl

theorem setRow_new (w : World) (old cs : Array Value) (t : TypeId) (g : Nat) (hg : g = w.heap.size) : (w.alloc (.cells old t)).setRow g cs = w.alloc (.cells cs t) := by
  subst hg
  simp only [World.setRow, World.alloc]
  congr 1
  apply Array.ext
  · simp
  · intro k h1 h2
    simp only [Array.getElem_modify, Array.getElem_push]
    by_cases hk : k < w.heap.size
    · simp [hk, show ¬ w.heap.size = k by omega]
    · have : w.heap.size = k := by simp at h2; omega
      simp [this]

theorem below_setRow {B : Nat} {a w : World} (h : Below B a w) {g : Nat} (hg : B ≤ g) (cs : Array Value) : Below B a (w.setRow g cs) :=
  ⟨h.os, h.tape, h.output, by simpa using h.size, fun k hk => (setRow_other w g k cs (by omega)).trans (h.block k hk)⟩

theorem heap_new (w : World) (o : Obj) (g : Nat) (hg : g = w.heap.size) : (w.alloc o).heap[g]? = some o := by rw [hg]; exact heap_alloc_new w o
theorem heap_past (w : World) (o x : Obj) (g : Nat) (h : w.heap[g]? = some x) : (w.alloc o).heap[g]? = some x := by
  rw [Below.heap_alloc w o g (Array.getElem?_eq_some_iff.1 h).1]; exact h

end Go.Proofs.Ytagogbodkbbikaa
namespace Go.Proofs.Ytagogbodkbbikaa
open Go Go.RowKit
set_option maxRecDepth 20000

/-- A type of elements that are structs or arrays, and the type of its slices. -/
structure El where
  elem : TypeId
  slice : TypeId
  size : Nat
  bytes : Nat
  zero : Array Value
/-- What the program says of it. -/
structure El.Ok (E : El) : Prop where
  hs : Try.prog.underlying E.slice = some (.slice E.elem)
  hu : ∃ d, Try.prog.underlying E.elem = some d ∧ (match d with | .struct _ | .array _ _ => true | _ => false) = true
  hi : (Try.prog.info? E.elem).map (fun i => (i.zero, i.size, i.bytes)) = some (some (.agg E.zero), E.size, E.bytes)
  hz : E.zero.size = E.size
  hp : 0 < E.size
  hb : E.bytes ≤ 100000
  hn : E.size ≤ 100000
theorem El.Ok.info {E : El} (H : E.Ok) : ∃ i, Try.prog.info? E.elem = some i ∧ i.zero = some (.agg E.zero) ∧ i.size = E.size ∧ i.bytes = E.bytes := by
  have h1 := H.hi
  cases h : Try.prog.info? E.elem with
  | none => rw [h] at h1; simp at h1
  | some i =>
    rw [h] at h1
    simp only [Option.map_some, Option.some.injEq, Prod.mk.injEq] at h1
    exact ⟨i, rfl, h1.1, h1.2.1, h1.2.2⟩
theorem El.Ok.cellsz {E : El} (H : E.Ok) (cs : Array Value) (hc : cs.size = E.size) : (Try.prog.info? E.elem).map (·.size) = some cs.size := by
  obtain ⟨i, h1, _, h2, _⟩ := H.info
  rw [h1, Option.map_some, h2, hc]

/-- A value that is laid in cells, one each. -/
def Fits (E : El) (cs : Array Value) : Prop := cs.size = E.size ∧ cs.all (·.oneCell') = true

/-- An element that lies within a block, from a place on. -/
theorem El.Ok.load {E : El} (H : E.Ok) (w : World) (g off : Nat) (cur : Array Value) (t : TypeId) (fr : Nat × Nat) (cs : Array Value) (hcs : cs.size = E.size) (hg : w.heap[g]? = some (.cells cur t fr)) (hc : ∀ j, j < E.size → cur[off + j]? = cs[j]?) :
    (loadVar E.elem ⟨g, off, none⟩).run Try.prog w = .ok (.agg cs) w := by
  have hl : (loadCells ⟨g, off, none⟩ cs.toList.length).run Try.prog w = .ok cs.toList.toArray w :=
    run_loadCells_list (P := Try.prog) w ⟨g, off, none⟩ cs.toList (fun j v hv => by
      have hadd : (⟨g, off, none⟩ : Addr).add j = ⟨g, off + j, none⟩ := by unfold Addr.add; split <;> simp_all
      have hj : j < E.size := by
        have := (List.getElem?_eq_some_iff.1 hv).1
        rw [Array.length_toList] at this
        omega
      rw [hadd, cell_of_row w g (off + j) cur t fr hg, hc j hj]
      simpa using hv)
  obtain ⟨i, hq, _, hs, _⟩ := H.info
  have hagg : (isAgg E.elem).run Try.prog w = .ok true w := by
    obtain ⟨d, hd, hm⟩ := H.hu
    unfold isAgg
    rw [Sem.run_bind, run_underlying hd w]
    revert hm
    cases d <;> simp [go_sem]
  rw [Array.length_toList, hcs, Array.toArray_toList] at hl
  simp [loadVar, Sem.run_bind, hagg, sizeOf, typeInfo, hq, hs, hl]
theorem wl_loadE {E : El} (H : E.Ok) {ops : Array Oper} {rest : List Oper} {o : Oper} {a : Act} {w : World} {Q : Exit → Act → World → Prop} (hw : Region.wanted o (yielded ops a.tmps) = true) (x : Operand) (ho : o.op = .load E.elem x)
    (g off : Nat) (hx : a.eval x = .pointer (some ⟨g, off, none⟩)) (cur : Array Value) (t : TypeId) (fr : Nat × Nat) (cs : Array Value) (hcs : cs.size = E.size) (hg : w.heap[g]? = some (.cells cur t fr)) (hc : ∀ j, j < E.size → cur[off + j]? = cs[j]?)
    (h : wpList Try.prog ops Q rest (a.put o.dst (.agg cs)) w) : wpList Try.prog ops Q (o :: rest) a w := by
  refine wpList_step fun K hK => ?_
  rw [if_pos hw]
  unfold Oper.wp execOp
  simp only [ho, hx, Instr.loadAt, Instr.sureAddr, Sem.run_bind, Sem.run_pure, Result.andThen_ok, H.load w g off cur t fr cs hcs hg hc]
  exact hK _ _ h
theorem own_cells (n : Nat) (cs : Array Value) : ∀ j, j < n → cs[0 + j]? = cs[j]? := fun j _ => by rw [Nat.zero_add]
theorem wl_storeE {E : El} (H : E.Ok) {ops : Array Oper} {rest : List Oper} {o : Oper} {a : Act} {w : World} {Q : Exit → Act → World → Prop} (hgd : o.guard = none) (x y : Operand) (ho : o.op = .store E.elem x y)
    (g : Nat) (cs : Array Value) (hf : Fits E cs) (hx : a.eval x = .pointer (some ⟨g, 0, none⟩)) (hy : a.eval y = .agg cs) (old : Array Value) (hg : w.heap[g]? = some (.cells old E.elem (0, 0))) (hold : old.size = E.size)
    (w' : World) (hw' : w.setRow g cs = w')
    (h : wpList Try.prog ops Q rest (a.put o.dst undef) w') : wpList Try.prog ops Q (o :: rest) a w :=
  wpList_store_row hgd E.elem x y ho g cs hx hy E.elem old hg (H.cellsz cs hf.1) (by rw [hf.1, hold]) hf.2 (by rw [hw']; exact h)
theorem qlE {E : El} (H : E.Ok) {C : World → Prop} {ops : Array Oper} {Q : Act → Prop} {rest : List Oper} {o : Oper} {a : Act} (hw : Region.wanted o (yielded ops a.tmps) = true) (x : Operand) (ho : o.op = .load E.elem x)
    (g off : Nat) (hx : a.eval x = .pointer (some ⟨g, off, none⟩)) (cur : Array Value) (t : TypeId) (fr : Nat × Nat) (cs : Array Value) (hcs : cs.size = E.size) (hg : ∀ w', C w' → w'.heap[g]? = some (.cells cur t fr)) (hc : ∀ j, j < E.size → cur[off + j]? = cs[j]?)
    (h : wpQuiet Try.prog ops C Q rest (a.put o.dst (.agg cs))) : wpQuiet Try.prog ops C Q (o :: rest) a := by
  refine BigFrame.wpQuiet_want hw fun K hK => ⟨.agg cs, fun w hC => ?_, hK _ h⟩
  unfold Oper.quietAt execOp
  simp only [ho, hx, Instr.loadAt, Instr.sureAddr, Sem.run_bind, Sem.run_pure, Result.andThen_ok, H.load w g off cur t fr cs hcs (hg w hC) hc]
  exact ⟨rfl, rfl⟩

/-- The cells of a list of elements. -/
def gcells {α : Type} (enc : α → Array Value) (C : List α) : List Value := C.flatMap fun c => (enc c).toList
theorem gcells_append {α : Type} (enc : α → Array Value) (C D : List α) : gcells enc (C ++ D) = gcells enc C ++ gcells enc D := by simp [gcells]
theorem gcells_one {α : Type} (enc : α → Array Value) (c : α) : gcells enc [c] = (enc c).toList := by simp [gcells]
theorem gcells_cons {α : Type} (enc : α → Array Value) (c : α) (C : List α) : gcells enc (c :: C) = (enc c).toList ++ gcells enc C := by simp [gcells]
theorem gcells_at {α : Type} (enc : α → Array Value) (n : Nat) : ∀ (C : List α), (∀ c ∈ C, (enc c).size = n) → ∀ (i : Nat) (hi : i < C.length) (j : Nat), j < n → (gcells enc C)[n * i + j]? = (enc C[i])[j]?
  | [], _, i, hi, _, _ => absurd hi (by simp)
  | c :: C, h, 0, _, j, hj => by
    have h1 := h c (by simp)
    rw [gcells_cons, Nat.mul_zero, Nat.zero_add, List.getElem?_append_left (by rw [Array.length_toList, h1]; exact hj)]
    simp
  | c :: C, h, i + 1, hi, j, hj => by
    have h1 := h c (by simp)
    have ih := gcells_at enc n C (fun d hd => h d (by simp [hd])) i (by simpa using hi) j hj
    rw [gcells_cons, show n * (i + 1) + j = n + (n * i + j) by rw [Nat.mul_add, Nat.mul_one]; omega, List.getElem?_append_right (by rw [Array.length_toList, h1]; omega), Array.length_toList, h1, Nat.add_sub_cancel_left]
    simpa using ih

theorem gfold_get (off : Nat) : ∀ (xs : List Value) (n : Nat) (cells : Array Value) (k : Nat), off + n + xs.length ≤ cells.size →
    ((xs.zipIdx n).foldl (fun cs (x : Value × Nat) => cs.setIfInBounds (off + x.2) x.1) cells)[k]? = if off + n ≤ k ∧ k < off + n + xs.length then xs[k - (off + n)]? else cells[k]?
  | [], n, cells, k, _ => by
    simp only [List.zipIdx_nil, List.foldl_nil, List.length_nil, Nat.add_zero]
    rw [if_neg (by omega)]
  | x :: xs, n, cells, k, h => by
    simp only [List.length_cons] at h
    rw [List.zipIdx_cons, List.foldl_cons, gfold_get off xs (n + 1) _ k (by simp; omega)]
    simp only [List.length_cons]
    by_cases h1 : off + (n + 1) ≤ k ∧ k < off + (n + 1) + xs.length
    · rw [if_pos h1, if_pos (by omega), show k - (off + n) = (k - (off + (n + 1))) + 1 by omega, List.getElem?_cons_succ]
    · rw [if_neg h1]
      by_cases h2 : k = off + n
      · subst h2
        rw [if_pos (by omega), Nat.sub_self, List.getElem?_cons_zero, Array.getElem?_setIfInBounds_self_of_lt (by omega)]
      · rw [if_neg (by omega), Array.getElem?_setIfInBounds_ne (by omega)]
theorem gfold_all (xs cells : Array Value) (h : xs.size = cells.size) : xs.zipIdx.foldl (fun cs (x : Value × Nat) => cs.setIfInBounds (0 + x.2) x.1) cells = xs := by
  have e : xs.zipIdx.foldl (fun cs (x : Value × Nat) => cs.setIfInBounds (0 + x.2) x.1) cells = (xs.toList.zipIdx 0).foldl (fun cs (x : Value × Nat) => cs.setIfInBounds (0 + x.2) x.1) cells := by
    rw [← Array.foldl_toList]; simp
  rw [e]
  apply Array.ext_getElem?
  intro k
  rw [gfold_get 0 xs.toList 0 cells k (by simp; omega)]
  by_cases hk : k < xs.size
  · rw [if_pos (by simp; omega)]; simp
  · rw [if_neg (by simp; omega), Array.getElem?_eq_none (by omega), Array.getElem?_eq_none (by omega)]

set_option maxRecDepth 20000 in
/-- A slice of one element. -/
theorem wl_buildE {E : El} (H : E.Ok) {ops : Array Oper} {rest : List Oper} {o : Oper} {a : Act} {w : World} {Q : Exit → Act → World → Prop} (hg : o.guard = none) (x : Operand) (ho : o.op = .buildSlice E.slice 1 #[(0, x)]) (cs : Array Value) (hcs : cs.size = E.size) (hx : a.eval x = .agg cs)
    (h : wpList Try.prog ops Q rest (a.put o.dst (.slice (some ⟨w.heap.size, 0, none⟩) 1 1)) (w.alloc (.cells cs E.elem))) : wpList Try.prog ops Q (o :: rest) a w := by
  obtain ⟨ie, hie, hz, hs, _⟩ := H.info
  refine wpList_buildSlice hg E.slice E.elem 1 _ ho cs ie (.agg E.zero) H.hs hie hz (by rw [hs]; have := H.hn; omega) (by rw [hs]; have := H.hp; omega) ?_ h
  simp only [List.map_toArray, List.map_cons, List.map_nil, hx, Instr.fill, hs, Nat.zero_mul, Value.cells, hcs]
  rw [if_neg (by simp)]
  congr 1
  exact gfold_all _ _ (by rw [hcs]; simp)

/-- One element appended to one's own row of them, and where the new row lies. -/
theorem wl_appendE {E : El} (H : E.Ok) {α : Type} (enc : α → Array Value) {ops : Array Oper} {rest : List Oper} {o : Oper} {a : Act} {w : World} {Q : Exit → Act → World → Prop} (hgd : o.guard = none) (s x : Operand) (ho : o.op = .call { callee := .builtin .append, args := #[s, x], argTypes := #[E.slice, E.slice] })
    (base : Nat) (v : Value) (C : List α) (c : α) (hf : Fits E (enc c)) (hs : a.eval s = v) (hown : w.ownsRow base E.elem E.size v C.length (gcells enc C)) (g cap : Nat) (hx : a.eval x = .slice (some ⟨g, 0, none⟩) 1 cap) (hg : w.heap[g]? = some (.cells (enc c) E.elem (0, 0)))
    (hn : C.length ≤ 1000000) (hbase : base ≤ w.heap.size)
    (h : ∀ v' w', w'.ownsRow base E.elem E.size v' (C ++ [c]).length (gcells enc (C ++ [c])) → w.grownBy w' v.ownBlock → (v'.ownBlock = v.ownBlock ∨ v'.ownBlock = some w.heap.size) → wpList Try.prog ops Q rest (a.put o.dst v') w') : wpList Try.prog ops Q (o :: rest) a w := by
  obtain ⟨i0, hi, hz0, hz1, hz2⟩ := H.info
  have hb := H.hb
  refine wpList_append_own_at _ hgd s x E.slice ho base E.elem i0 (.agg E.zero) E.size E.bytes H.hs hi hz0 hz1 hz2 (by simpa [Value.cells] using H.hz) H.hp v _ _ hs hown ⟨g, 0, none⟩ 1 cap (enc c).toList hx (by rw [Array.length_toList, hf.1, Nat.one_mul]) (fun j y hy => ?_) (fun u hu => ?_) (by unfold maxLen; omega) ?_ hbase ?_
  · have hadd : (⟨g, 0, none⟩ : Addr).add j = ⟨g, j, none⟩ := by unfold Addr.add; split <;> simp_all
    rw [hadd, cell_of_row w g j _ _ _ hg, ← hy]
    simp
  · exact (Array.all_eq_true_iff_forall_mem.1 hf.2) u (by simpa using hu)
  · exact Nat.le_trans (Nat.mul_le_mul (show C.length + 1 ≤ 1000001 by omega) hb) (by decide)
  · intro v' w' h5 h6 _ h7
    refine h v' w' ?_ h6 h7
    rw [List.length_append, gcells_append, gcells_one]; exact h5

/-- A slice, wherever it lies, whose elements are these. -/
def GSl {α : Type} (E : El) (enc : α → Array Value) (w : World) (v : Value) (C : List α) : Prop :=
  ∃ (o : Option Addr) (cap : Nat), v = .slice o C.length cap ∧ C.length ≤ cap ∧ cap ≤ maxLen ∧ ∀ (i : Nat) (hi : i < C.length), ∃ g off cur t fr, o = some ⟨g, off, none⟩ ∧ w.heap[g]? = some (.cells cur t fr) ∧ ∀ j, j < E.size → cur[off + i * E.size + j]? = (enc C[i])[j]?
theorem GSl.below {α : Type} {E : El} {enc : α → Array Value} {w w' : World} {v : Value} {C : List α} (h : GSl E enc w v C) (hb : Below w.heap.size w w') : GSl E enc w' v C := by
  obtain ⟨o, cap, rfl, h1, h2, h3⟩ := h
  refine ⟨o, cap, rfl, h1, h2, fun i hi => ?_⟩
  obtain ⟨g, off, cur, t, fr, h4, h5, h6⟩ := h3 i hi
  exact ⟨g, off, cur, t, fr, h4, (hb.block g (Array.getElem?_eq_some_iff.1 h5).1).trans h5, h6⟩
theorem GSl.slice {α : Type} {E : El} {enc : α → Array Value} {w : World} {v : Value} {C : List α} (h : GSl E enc w v C) : ∃ (o : Option Addr) (cap : Nat), v = .slice o C.length cap ∧ C.length ≤ cap ∧ cap ≤ maxLen := by
  obtain ⟨o, cap, h1, h2, h3, _⟩ := h
  exact ⟨o, cap, h1, h2, h3⟩
theorem GSl.at {α : Type} {E : El} {enc : α → Array Value} {w : World} {o : Option Addr} {n cap : Nat} {C : List α} (h : GSl E enc w (.slice o n cap) C) (k : Nat) (hk : k < n) :
    ∃ g off cur t fr, ∃ c : α, o = some ⟨g, off, none⟩ ∧ w.heap[g]? = some (.cells cur t fr) ∧ (∀ j, j < E.size → cur[off + k * E.size + j]? = (enc c)[j]?) ∧ C[k]? = some c := by
  obtain ⟨o', cap', h1, _, _, h3⟩ := h
  simp only [Value.slice.injEq] at h1
  obtain ⟨rfl, rfl, rfl⟩ := h1
  obtain ⟨g, off, cur, t, fr, h4, h5, h6⟩ := h3 k hk
  exact ⟨g, off, cur, t, fr, C[k], h4, h5, h6, List.getElem?_eq_getElem hk⟩
theorem gsl_of {α : Type} {E : El} {enc : α → Array Value} {w : World} {B : Nat} {v : Value} {C : List α} (h : w.ownsRow B E.elem E.size v C.length (gcells enc C)) (hC : ∀ c ∈ C, (enc c).size = E.size) : GSl E enc w v C := by
  obtain ⟨h1, ⟨rfl, h2⟩ | ⟨g, cap, cur, rfl, hB, hcur, h5, h6, _, h4⟩⟩ := h
  · exact ⟨none, 0, by rw [h2], by omega, Nat.zero_le _, fun i hi => by omega⟩
  · refine ⟨_, cap, rfl, h5, h6, fun i hi => ⟨g, 0, cur, _, _, rfl, hcur, fun j hj => ?_⟩⟩
    have hlt : E.size * i + j < C.length * E.size := by
      have : E.size * (i + 1) ≤ E.size * C.length := Nat.mul_le_mul_left _ hi
      rw [Nat.mul_add, Nat.mul_one] at this
      rw [Nat.mul_comm C.length]
      omega
    rw [← gcells_at enc E.size C hC i hi j hj, ← h4, List.getElem?_take_of_lt hlt, Nat.zero_add, Nat.mul_comm]
    simp
theorem gsl_nil {α : Type} (E : El) (enc : α → Array Value) (w : World) : GSl E enc w (.slice none 0 0) [] := ⟨none, 0, rfl, Nat.le_refl _, Nat.zero_le _, fun i hi => absurd hi (by simp)⟩
theorem gown_slice {w : World} {B : Nat} {e : TypeId} {s : Nat} {v : Value} {n : Nat} {xs : List Value} (h : w.ownsRow B e s v n xs) : ∃ o cap, v = .slice o n cap := by
  obtain ⟨_, ⟨rfl, rfl⟩ | ⟨g, cap, cur, rfl, _⟩⟩ := h
  · exact ⟨none, 0, rfl⟩
  · exact ⟨_, cap, rfl⟩
theorem gown_below {w w' : World} {B : Nat} {e : TypeId} {s : Nat} {v : Value} {n : Nat} {xs : List Value} (h : w.ownsRow B e s v n xs) (hb : Below w.heap.size w w') : w'.ownsRow B e s v n xs := by
  obtain ⟨h1, h2 | ⟨g, cap, cur, rfl, hB, hcur, h3⟩⟩ := h
  · exact ⟨h1, .inl h2⟩
  · exact ⟨h1, .inr ⟨g, cap, cur, rfl, hB, (hb.block g (Array.getElem?_eq_some_iff.1 hcur).1).trans hcur, h3⟩⟩
theorem gown_base {w : World} {B B' : Nat} {e : TypeId} {s : Nat} {v : Value} {n : Nat} {xs : List Value} (h : w.ownsRow B e s v n xs) (hB' : B' ≤ B) : w.ownsRow B' e s v n xs := by
  obtain ⟨h1, h2 | ⟨g', cap, cur, rfl, hB, h3⟩⟩ := h
  · exact ⟨h1, .inl h2⟩
  · exact ⟨h1, .inr ⟨g', cap, cur, rfl, by omega, h3⟩⟩
end Go.Proofs.Ytagogbodkbbikaa
namespace Go.Proofs.Ytagogbodkbbikaa
open Go Go.RowKit
set_option maxRecDepth 20000

/-- All blocks but these are as they were. -/
structure Kept (X : Nat → Prop) (w w' : World) : Prop where
  os : w'.os = w.os
  tape : w'.tape = w.tape
  output : w'.output = w.output
  size : w.heap.size ≤ w'.heap.size
  block : ∀ k, k < w.heap.size → ¬ X k → w'.heap[k]? = w.heap[k]?
theorem Kept.refl (X : Nat → Prop) (w : World) : Kept X w w := ⟨rfl, rfl, rfl, Nat.le_refl _, fun _ _ _ => rfl⟩
theorem Kept.of_below {X : Nat → Prop} {w w' : World} (h : Below w.heap.size w w') : Kept X w w' := ⟨h.os, h.tape, h.output, h.size, fun k hk _ => h.block k hk⟩
theorem Kept.of_grown {X : Nat → Prop} {w w' : World} {row : Option Nat} (h : w.grownBy w' row) (hr : ∀ k, row = some k → X k) : Kept X w w' :=
  ⟨h.os, h.tape, h.output, h.size, fun k hk hX => h.block k hk fun e => hX (hr k e.symm)⟩
theorem Kept.trans {X Y : Nat → Prop} {w w1 w2 : World} (h : Kept X w w1) (h' : Kept Y w1 w2) (hY : ∀ k, Y k → X k ∨ w.heap.size ≤ k) : Kept X w w2 :=
  ⟨h'.os.trans h.os, h'.tape.trans h.tape, h'.output.trans h.output, Nat.le_trans h.size h'.size, fun k hk hX => by
    rw [h'.block k (Nat.lt_of_lt_of_le hk h.size) (fun hy => by rcases hY k hy with e | e; exact hX e; omega)]
    exact h.block k hk hX⟩
theorem Kept.mono {X Y : Nat → Prop} {w w' : World} (h : Kept X w w') (hXY : ∀ k, k < w.heap.size → X k → Y k) : Kept Y w w' := ⟨h.os, h.tape, h.output, h.size, fun k hk hY => h.block k hk fun hX => hY (hXY k hk hX)⟩
theorem Kept.below {X : Nat → Prop} {w w' : World} {B : Nat} (h : Kept X w w') (hX : ∀ k, X k → B ≤ k) (hB : B ≤ w.heap.size) : Below B w w' :=
  ⟨h.os, h.tape, h.output, h.size, fun k hk => h.block k (by omega) fun hx => by have := hX k hx; omega⟩
theorem Kept.add {X : Nat → Prop} {w w1 w2 : World} (h : Kept X w w1) (h' : Below w1.heap.size w1 w2) : Kept X w w2 := h.trans (Y := fun _ => False) (Kept.of_below h') fun _ h => h.elim
theorem Kept.heap {X : Nat → Prop} {w w' : World} {k : Nat} {o : Obj} (h : Kept X w w') (hk : w.heap[k]? = some o) (hX : ¬ X k) : w'.heap[k]? = some o := (h.block k (Array.getElem?_eq_some_iff.1 hk).1 hX).trans hk
theorem Kept.own {X : Nat → Prop} {w w' : World} (h : Kept X w w') {B : Nat} {e : TypeId} {s : Nat} {v : Value} {n : Nat} {xs : List Value} (ho : w.ownsRow B e s v n xs) (hX : ∀ k, v.ownBlock = some k → ¬ X k) : w'.ownsRow B e s v n xs := by
  obtain ⟨h1, h2 | ⟨g, cap, cur, rfl, hB, hcur, h3⟩⟩ := ho
  · exact ⟨h1, .inl h2⟩
  · exact ⟨h1, .inr ⟨g, cap, cur, rfl, hB, h.heap hcur (hX g rfl), h3⟩⟩

/-- Two rows lie apart. -/
def ApartR (a b : Option Nat) : Prop := a = none ∨ b = none ∨ a ≠ b
theorem ApartR.symm {a b : Option Nat} (h : ApartR a b) : ApartR b a := by
  rcases h with h | h | h
  · exact .inr (.inl h)
  · exact .inl h
  · exact .inr (.inr fun e => h e.symm)
theorem ApartR.ne {a b : Option Nat} (h : ApartR a b) : ∀ k, a = some k → b ≠ some k := by
  intro k ha hb
  subst ha
  subst hb
  rcases h with h | h | h
  · cases h
  · cases h
  · exact h rfl
def isB (g : Nat) (k : Nat) : Prop := k = g
def rowX (v : Value) (k : Nat) : Prop := v.ownBlock = some k
end Go.Proofs.Ytagogbodkbbikaa
namespace Go.Proofs.Ytagogbodkbbikaa
open Go Go.RowKit
set_option maxRecDepth 20000

/-! What a call on a state that lies in certain blocks (its foot) leaves. -/
structure Frm (F F' : Nat → Prop) (w w' : World) : Prop where
  kept : Kept F w w'
  foot : ∀ k, F' k → F k ∨ w.heap.size ≤ k
theorem Frm.of_below {F : Nat → Prop} {w w' : World} (h : Below w.heap.size w w') : Frm F F w w' := ⟨Kept.of_below h, fun _ e => .inl e⟩
theorem Frm.refl (F : Nat → Prop) (w : World) : Frm F F w w := ⟨Kept.refl _ _, fun _ e => .inl e⟩
theorem Frm.trans {F F1 F2 : Nat → Prop} {w w1 w2 : World} (h : Frm F F1 w w1) (h' : Frm F1 F2 w1 w2) : Frm F F2 w w2 :=
  ⟨h.kept.trans h'.kept h.foot, fun k e => by
    rcases h'.foot k e with e | e
    · exact h.foot k e
    · exact .inr (Nat.le_trans h.kept.size e)⟩
theorem Frm.add {F F' : Nat → Prop} {w w1 w2 : World} (h : Frm F F' w w1) (hb : Below w1.heap.size w1 w2) : Frm F F' w w2 := h.trans (Frm.of_below hb)
/-- Blocks outside the foot stay. -/
theorem Frm.heap {F F' : Nat → Prop} {w w' : World} (h : Frm F F' w w') {k : Nat} {o : Obj} (hk : w.heap[k]? = some o) (hF : ¬ F k) : w'.heap[k]? = some o := h.kept.heap hk hF
/-- Worlds in which a block stays. -/
structure KeepB (p : Nat) (ob : Obj) where
  world : World
  k1 : world.heap[p]? = some ob
end Go.Proofs.Ytagogbodkbbikaa
namespace Go.Proofs.Ytagogbodkbbikaa
open Go
set_option maxRecDepth 20000

/-! Injections that wait (layer 19): its mathematics. Who waits, by rising Seq. -/
structure AskM where
  seq : Int
  index : Int
  head : List Int
  sent : Int
  due : Int
structure WaitM where
  room : Int
  tries : Int
  time : Int
  l : List AskM
  last : Nat
def clockW (now : Int) : Int := min (max now 0) 1099511627776
def newW (room tries time : Int) : Option WaitM := if 1 ≤ room ∧ room ≤ 64 ∧ 0 ≤ tries ∧ tries ≤ 8 ∧ 1 ≤ time ∧ time ≤ 1000 then some ⟨room, tries, time, [], 0⟩ else none
def putW (w : WaitM) (index : Int) (h : List Int) (now : Int) : WaitM := { w with l := w.l ++ [⟨(w.last : Int) + 1, index, h, 1, clockW now + w.time⟩], last := w.last + 1 }
def addW (w : WaitM) (index : Int) (h : List Int) (now : Int) : WaitM × Int × Int := if (w.l.length : Int) = w.room then (w, 0, 13) else (putW w index h now, (w.last : Int) + 1, 0)
def seqW (s : Int) (x : AskM) : Bool := x.seq == s
def dropW (w : WaitM) (s : Int) : WaitM := { w with l := w.l.filter fun x => !(seqW s x) }
def answerW (w : WaitM) (s : Int) : WaitM × Option AskM := match w.l.find? (seqW s) with
  | some x => (dropW w s, some x)
  | none => (w, none)
def dueW (now : Int) (x : AskM) : Bool := decide (x.due ≤ clockW now)
def moreW (w : WaitM) (x : AskM) : Bool := decide (x.sent ≤ w.tries)
def askW (w : WaitM) (now : Int) (x : AskM) : AskM := { x with sent := x.sent + 1, due := clockW now + w.time }
def stepWt (w : WaitM) (now : Int) (x : AskM) : Option AskM := if dueW now x then (if moreW w x then some (askW w now x) else none) else some x
def againW (w : WaitM) (now : Int) : List AskM := (w.l.filter fun x => dueW now x && moreW w x).map (askW w now)
def goneW (w : WaitM) (now : Int) : List AskM := w.l.filter fun x => dueW now x && !(moreW w x)
def tickW (w : WaitM) (now : Int) : WaitM := { w with l := w.l.filterMap (stepWt w now) }
def clearW (w : WaitM) : WaitM := { w with l := [] }
/-- What holds whatever is done. -/
structure WaitOk (w : WaitM) : Prop where
  time1 : 1 ≤ w.time
  tries0 : 0 ≤ w.tries
  room1 : 1 ≤ w.room
  len : (w.l.length : Int) ≤ w.room
  rise : w.l.Pairwise fun x y => x.seq < y.seq
  seq : ∀ x ∈ w.l, 1 ≤ x.seq ∧ x.seq ≤ (w.last : Int)
  sent : ∀ x ∈ w.l, 1 ≤ x.sent ∧ x.sent ≤ w.tries + 1
theorem new_okW {room tries time : Int} {w : WaitM} (h : newW room tries time = some w) : WaitOk w := by
  unfold newW at h
  split at h
  · rename_i hc
    obtain rfl := Option.some.inj h
    exact ⟨hc.2.2.2.2.1, hc.2.2.1, hc.1, by simp; omega, List.Pairwise.nil, fun x hx => absurd hx (List.not_mem_nil), fun x hx => absurd hx (List.not_mem_nil)⟩
  · cases h
theorem add_okW {w : WaitM} (h : WaitOk w) (index : Int) (hd : List Int) (now : Int) : WaitOk (addW w index hd now).1 := by
  unfold addW
  split
  · exact h
  · rename_i hc
    have hl := h.len
    have h0 := h.tries0
    refine ⟨h.time1, h.tries0, h.room1, ?_, ?_, fun x hx => ?_, fun x hx => ?_⟩
    · show ((w.l ++ _).length : Int) ≤ w.room
      rw [List.length_append]
      simp
      omega
    · refine List.pairwise_append.2 ⟨h.rise, List.pairwise_singleton _ _, fun x hx y hy => ?_⟩
      obtain rfl : y = ⟨(w.last : Int) + 1, index, hd, 1, clockW now + w.time⟩ := by simpa using hy
      have := (h.seq x hx).2
      dsimp only
      omega
    · show 1 ≤ x.seq ∧ x.seq ≤ ((w.last + 1 : Nat) : Int)
      rcases List.mem_append.1 hx with hx | hx
      · have := h.seq x hx
        omega
      · obtain rfl : x = ⟨(w.last : Int) + 1, index, hd, 1, clockW now + w.time⟩ := by simpa using hx
        dsimp only
        omega
    · show 1 ≤ x.sent ∧ x.sent ≤ w.tries + 1
      rcases List.mem_append.1 hx with hx | hx
      · exact h.sent x hx
      · obtain rfl : x = ⟨(w.last : Int) + 1, index, hd, 1, clockW now + w.time⟩ := by simpa using hx
        dsimp only
        omega
theorem sub_okW {w : WaitM} (h : WaitOk w) {l : List AskM} (hs : l.Sublist w.l) : WaitOk { w with l := l } :=
  ⟨h.time1, h.tries0, h.room1, by have := h.len; have := hs.length_le; show (l.length : Int) ≤ w.room; omega, h.rise.sublist hs, fun x hx => h.seq x (hs.subset hx), fun x hx => h.sent x (hs.subset hx)⟩
theorem answer_okW {w : WaitM} (h : WaitOk w) (s : Int) : WaitOk (answerW w s).1 := by
  unfold answerW
  split
  · exact sub_okW h List.filter_sublist
  · exact h
theorem clear_okW {w : WaitM} (h : WaitOk w) : WaitOk (clearW w) := sub_okW h (List.nil_sublist _)
theorem step_seq {w : WaitM} {now : Int} {x y : AskM} (h : stepWt w now x = some y) : y.seq = x.seq := by
  unfold stepWt at h
  split at h
  · split at h
    · obtain rfl := Option.some.inj h; rfl
    · cases h
  · obtain rfl := Option.some.inj h; rfl
theorem tick_okW {w : WaitM} (h : WaitOk w) (now : Int) : WaitOk (tickW w now) := by
  refine ⟨h.time1, h.tries0, h.room1, ?_, ?_, fun y hy => ?_, fun y hy => ?_⟩
  · have := h.len
    have h2 := List.length_filterMap_le (stepWt w now) w.l
    show ((w.l.filterMap (stepWt w now)).length : Int) ≤ w.room
    omega
  · refine List.pairwise_filterMap.2 (h.rise.imp fun {a b} hab x hx y hy => ?_)
    rw [step_seq hx, step_seq hy]
    exact hab
  · obtain ⟨x, hx, hxy⟩ := List.mem_filterMap.1 hy
    rw [step_seq hxy]
    exact h.seq x hx
  · obtain ⟨x, hx, hxy⟩ := List.mem_filterMap.1 hy
    have h1 := h.sent x hx
    show 1 ≤ y.sent ∧ y.sent ≤ w.tries + 1
    unfold stepWt at hxy
    split at hxy
    · split at hxy
      · rename_i hm
        obtain rfl := Option.some.inj hxy
        unfold moreW at hm
        rw [decide_eq_true_eq] at hm
        show 1 ≤ x.sent + 1 ∧ x.sent + 1 ≤ w.tries + 1
        omega
      · cases hxy
    · obtain rfl := Option.some.inj hxy
      exact h1
/-- Those that are told again wait on; those that are gone do not. -/
theorem again_in {w : WaitM} {now : Int} {y : AskM} (h : y ∈ againW w now) : y ∈ (tickW w now).l ∧ ∃ x ∈ w.l, y.seq = x.seq := by
  unfold againW at h
  obtain ⟨x, hx, rfl⟩ := List.mem_map.1 h
  obtain ⟨h1, h2⟩ := List.mem_filter.1 hx
  rw [Bool.and_eq_true] at h2
  exact ⟨List.mem_filterMap.2 ⟨x, h1, by unfold stepWt; rw [h2.1, h2.2]; rfl⟩, x, h1, rfl⟩
theorem seq_one {w : WaitM} (h : WaitOk w) {x y : AskM} (hx : x ∈ w.l) (hy : y ∈ w.l) (e : x.seq = y.seq) : x = y := by
  have hr := h.rise
  generalize w.l = l at hx hy hr
  induction l with
  | nil => exact absurd hx (List.not_mem_nil)
  | cons a l ih =>
    obtain ⟨h1, h2⟩ := List.pairwise_cons.1 hr
    rcases List.mem_cons.1 hx with ex | gx
    · rcases List.mem_cons.1 hy with ey | gy
      · rw [ex, ey]
      · have := h1 y gy
        rw [← ex] at this
        omega
    · rcases List.mem_cons.1 hy with ey | gy
      · have := h1 x gx
        rw [← ey] at this
        omega
      · exact ih gx gy h2
theorem gone_out {w : WaitM} (h : WaitOk w) {now : Int} {x : AskM} (hx : x ∈ goneW w now) : x ∈ w.l ∧ ∀ y ∈ (tickW w now).l, y.seq ≠ x.seq := by
  obtain ⟨h1, h2⟩ := List.mem_filter.1 hx
  refine ⟨h1, fun y hy e => ?_⟩
  obtain ⟨z, hz, hzy⟩ := List.mem_filterMap.1 hy
  have hq := step_seq hzy
  obtain rfl := seq_one h hz h1 (by omega)
  rw [Bool.and_eq_true, Bool.not_eq_true'] at h2
  unfold stepWt at hzy
  rw [h2.1, h2.2] at hzy
  cases hzy
/-- Who waits behind a tick waited, and is not gone; the others are. -/
theorem tick_or {w : WaitM} {now : Int} {x : AskM} (hx : x ∈ w.l) : x ∈ goneW w now ∨ ∃ y ∈ (tickW w now).l, y.seq = x.seq := by
  cases e : stepWt w now x with
  | none =>
    left
    unfold stepWt at e
    split at e
    · rename_i h1
      split at e
      · cases e
      · rename_i h2
        exact List.mem_filter.2 ⟨hx, by rw [h1, Bool.not_eq_true] at *; rw [h2]; rfl⟩
    · cases e
  | some y => exact .inr ⟨y, List.mem_filterMap.2 ⟨x, hx, e⟩, step_seq e⟩
/-- All alike: as many as are told, at the time that they are due. -/
def alike (D s : Int) (l : List AskM) : Prop := ∀ x ∈ l, x.due = D ∧ x.sent = s
theorem tick_early {w : WaitM} {now D s : Int} (h : alike D s w.l) (hn : clockW now < D) : tickW w now = w ∧ againW w now = [] ∧ goneW w now = [] := by
  have hd : ∀ x ∈ w.l, dueW now x = false := fun x hx => by
    unfold dueW
    rw [decide_eq_false_iff_not, (h x hx).1]
    omega
  refine ⟨?_, ?_, ?_⟩
  · unfold tickW
    have : w.l.filterMap (stepWt w now) = w.l := by
      generalize w.l = l at hd
      induction l with
      | nil => rfl
      | cons a l ih =>
        have ea : stepWt w now a = some a := by
          unfold stepWt
          rw [hd a List.mem_cons_self]; rfl
        rw [List.filterMap_cons, ea]
        exact congrArg _ (ih fun x hx => hd x (List.mem_cons_of_mem _ hx))
    rw [this]
  · unfold againW
    rw [List.filter_eq_nil_iff.2 fun x hx => by rw [hd x hx]; simp]
    rfl
  · unfold goneW
    exact List.filter_eq_nil_iff.2 fun x hx => by rw [hd x hx]; simp
theorem tick_due {w : WaitM} {now D s : Int} (h : alike D s w.l) (hn : D ≤ clockW now) (hs : s ≤ w.tries) : (tickW w now).l = w.l.map (askW w now) ∧ againW w now = w.l.map (askW w now) ∧ goneW w now = [] ∧ alike (clockW now + w.time) (s + 1) (tickW w now).l := by
  have hd : ∀ x ∈ w.l, dueW now x = true ∧ moreW w x = true := fun x hx => by
    unfold dueW moreW
    rw [decide_eq_true_eq, decide_eq_true_eq, (h x hx).1, (h x hx).2]
    exact ⟨hn, hs⟩
  have e1 : (tickW w now).l = w.l.map (askW w now) := by
    unfold tickW
    dsimp only
    generalize w.l = l at hd
    induction l with
    | nil => rfl
    | cons a l ih =>
      have ea : stepWt w now a = some (askW w now a) := by
        unfold stepWt
        rw [(hd a List.mem_cons_self).1, (hd a List.mem_cons_self).2]; rfl
      rw [List.filterMap_cons, ea, List.map_cons]
      exact congrArg _ (ih fun x hx => hd x (List.mem_cons_of_mem _ hx))
  refine ⟨e1, ?_, ?_, ?_⟩
  · unfold againW
    rw [List.filter_eq_self.2 fun x hx => by rw [(hd x hx).1, (hd x hx).2]; rfl]
  · unfold goneW
    exact List.filter_eq_nil_iff.2 fun x hx => by rw [(hd x hx).1, (hd x hx).2]; simp
  · rw [e1]
    intro y hy
    obtain ⟨x, hx, rfl⟩ := List.mem_map.1 hy
    exact ⟨rfl, by show x.sent + 1 = s + 1; rw [(h x hx).2]⟩
theorem tick_last {w : WaitM} {now D s : Int} (h : alike D s w.l) (hn : D ≤ clockW now) (hs : w.tries < s) : (tickW w now).l = [] ∧ againW w now = [] ∧ goneW w now = w.l := by
  have hd : ∀ x ∈ w.l, dueW now x = true ∧ moreW w x = false := fun x hx => by
    unfold dueW moreW
    rw [decide_eq_true_eq, decide_eq_false_iff_not, (h x hx).1, (h x hx).2]
    exact ⟨hn, by omega⟩
  refine ⟨?_, ?_, ?_⟩
  · unfold tickW
    dsimp only
    rw [List.filterMap_eq_nil_iff]
    intro x hx
    unfold stepWt
    rw [(hd x hx).1, (hd x hx).2]; rfl
  · unfold againW
    rw [List.filter_eq_nil_iff.2 fun x hx => by rw [(hd x hx).1, (hd x hx).2]; simp]
    rfl
  · unfold goneW
    exact List.filter_eq_self.2 fun x hx => by rw [(hd x hx).1, (hd x hx).2]; rfl
end Go.Proofs.Ytagogbodkbbikaa
namespace Go.Proofs.Ytagogbodkbbikaa
open Go
set_option maxRecDepth 20000

/-- A token. -/
structure Tok where
  kind : Nat
  pos : Nat
  text : List UInt8
  num : Nat

end Go.Proofs.Ytagogbodkbbikaa
namespace Go.Proofs.Ytagogbodkbbikaa
open Go Go.RowKit
set_option maxRecDepth 20000

end Go.Proofs.Ytagogbodkbbikaa
namespace Go.Proofs.Ytagogbodkbbikaa
open Go Go.RowKit
set_option maxRecDepth 20000

/-- Where a walk stands still. -/
def StopT (p : Prop) : Prop := p
theorem of_stopT {p : Prop} (h : StopT p) : p := h
theorem eqFields_step {P : Program} (w : World) {d : Nat} {xs ys : Array Value} {f : Field} {fs : List Field} {a b : Value} {r R : Bool} (hn : f.name ≠ "_") (ha : (part f.type xs f.offset).run P w = .ok a w) (hb : (part f.type ys f.offset).run P w = .ok b w)
    (he : (Op.equalIn d f.type a b).run P w = .ok r w) (h : (Op.eqFields d xs ys fs).run P w = .ok R w) : (Op.eqFields d xs ys (f :: fs)).run P w = .ok (r && R) w := by
  simp only [Op.eqFields, if_pos hn, Sem.run_bind, ha, hb, he, Result.andThen_ok]
  cases r
  · simp
  · simpa using h
theorem part_cell {P : Program} (w : World) {t : TypeId} {xs : Array Value} {k : Nat} {v : Value} (ha : (isAgg t).run P w = .ok false w) (hx : xs[k]? = some v) : (part t xs k).run P w = .ok v w := by
  simp [part, ha, hx, Sem.run_bind]
theorem tc_frozen {w : World} {g k : Nat} {cs : Array Value} {t : TypeId} {fr : Nat × Nat} (h : w.heap[g]? = some (.cells cs t fr)) (hf : fr = (0, 0)) : w.frozen? ⟨g, k, none⟩ = false := by
  subst hf
  simp [World.frozen?, h]

end Go.Proofs.Ytagogbodkbbikaa
namespace Go.Proofs.Ytagogbodkbbikaa
open Go Go.RowKit
set_option maxRecDepth 20000

theorem wl_minI {ops : Array Oper} {rest : List Oper} {o : Oper} {a : Act} {w : World} {Q : Exit → Act → World → Prop} (hgd : o.guard = none) (x y : Operand) (ho : o.op = .call { callee := .builtin .min, args := #[x, y], argTypes := #[3, 3] })
    (p q r : Int) (hx : a.eval x = .int .i64 p) (hy : a.eval y = .int .i64 q) (hr : r = min p q) (h : wpList Try.prog ops Q rest (a.put o.dst (.int .i64 r)) w) : wpList Try.prog ops Q (o :: rest) a w := by
  obtain ⟨dst, op, ty, pos, after, guard⟩ := o
  subst ho
  have hr : (execOp a.eval ⟨dst, .call { callee := .builtin .min, args := #[x, y], argTypes := #[3, 3] }, ty, pos, after, guard⟩).run Try.prog w = .ok (.value (.int .i64 r)) w := by
    subst hr
    by_cases h1 : p ≤ q
    · rw [show min p q = p by omega]
      unfold execOp
      simp [resolve, invoke, builtin, hx, hy, Builtin.min_, Builtin.min2]
      all_goals omega
    · rw [show min p q = q by omega]
      unfold execOp
      simp [resolve, invoke, builtin, hx, hy, Builtin.min_, Builtin.min2]
      all_goals omega
  refine wpList_plain hgd fun K hK => ?_
  unfold Oper.wp
  rw [hr]
  exact hK _ _ h
theorem wl_maxI {ops : Array Oper} {rest : List Oper} {o : Oper} {a : Act} {w : World} {Q : Exit → Act → World → Prop} (hgd : o.guard = none) (x y : Operand) (ho : o.op = .call { callee := .builtin .max, args := #[x, y], argTypes := #[3, 3] })
    (p q r : Int) (hx : a.eval x = .int .i64 p) (hy : a.eval y = .int .i64 q) (hr : r = max p q) (h : wpList Try.prog ops Q rest (a.put o.dst (.int .i64 r)) w) : wpList Try.prog ops Q (o :: rest) a w := by
  obtain ⟨dst, op, ty, pos, after, guard⟩ := o
  subst ho
  have hr : (execOp a.eval ⟨dst, .call { callee := .builtin .max, args := #[x, y], argTypes := #[3, 3] }, ty, pos, after, guard⟩).run Try.prog w = .ok (.value (.int .i64 r)) w := by
    subst hr
    by_cases h1 : q ≤ p
    · rw [show max p q = p by omega]
      unfold execOp
      simp [resolve, invoke, builtin, hx, hy, Builtin.max_, Builtin.max2]
      all_goals omega
    · rw [show max p q = q by omega]
      unfold execOp
      simp [resolve, invoke, builtin, hx, hy, Builtin.max_, Builtin.max2]
      all_goals omega
  refine wpList_plain hgd fun K hK => ?_
  unfold Oper.wp
  rw [hr]
  exact hK _ _ h
end Go.Proofs.Ytagogbodkbbikaa
namespace Go.Proofs.Ytagogbodkbbikaa
open Go Go.RowKit
set_option maxRecDepth 20000

/-! Steps of drawn regions, for go_region_law_o. -/
/-- A call, as a step of a drawn region. -/
theorem step_call {ops : Array Oper} {o : Oper} {a : Act} {w : World} {K : Act → World → Prop} {Q : Exit → Act → World → Prop} {R : Prop} (hgd : o.guard = none) (f : FuncId) (xs : Array Operand)
    (hf : ∀ (b : Act) (w : World), (execOp b.eval o).run Try.prog w = .ok (.enter f (xs.map b.eval)) w) (vs : Array Value) (hvs : xs.toList.map a.eval = vs.toList)
    (D : Ending → World → Prop) (h : Calls Try.prog f vs w D) (hD : ∀ e w', D e w' → ∃ v, e = .returned v) (hK : ∀ v w', D (.returned v) w' → K (a.put o.dst v) w') :
    if Region.wanted o (yielded ops a.tmps) = true then Oper.wp Try.prog o a w K Q else R := by
  have hw : Region.wanted o (yielded ops a.tmps) = true := by simp [Region.wanted, hgd]
  rw [if_pos hw]
  unfold Oper.wp
  rw [hf a w, show xs.map a.eval = vs from Array.ext' (by rw [Array.toList_map]; exact hvs)]
  refine h.mono ?_
  intro e w' hd
  obtain ⟨v, rfl⟩ := hD e w' hd
  exact hK v w' hd
/-- Elements appended where there is room, as a step of a drawn region. -/
theorem step_append_row {ops : Array Oper} {o : Oper} {a : Act} {w : World} {K : Act → World → Prop} {Q : Exit → Act → World → Prop} {R : Prop} {E : El} (H : E.Ok)
    (hgd : o.guard = none) (s x : Operand) (hop : o.op = Op.call { callee := Callee.builtin Builtin.append, args := #[s, x], argTypes := #[E.slice, E.slice] })
    (g n cap : Nat) (hs : a.eval s = .slice (some ⟨g, 0, none⟩) n cap) (cur : Array Value) (hg : w.heap[g]? = some (.cells cur E.elem (0, 0)))
    (ad : Addr) (m c : Nat) (news : List Value) (hx : a.eval x = .slice (some ad) m c) (hn : news.length = m * E.size) (hc : ∀ j u, news[j]? = some u → w.cell? (ad.add j) = some u) (h1c : ∀ u ∈ news, u.oneCell' = true)
    (hroom : n + m ≤ cap) (hfit : n * E.size + news.length ≤ cur.size)
    (hK : K (a.put o.dst (.slice (some ⟨g, 0, none⟩) (n + m) cap)) (w.setRow g (cur.toList.take (n * E.size) ++ news ++ cur.toList.drop (n * E.size + news.length)).toArray)) :
    if Region.wanted o (yielded ops a.tmps) = true then Oper.wp Try.prog o a w K Q else R := by
  have hw : Region.wanted o (yielded ops a.tmps) = true := by simp [Region.wanted, hgd]
  rw [if_pos hw]
  obtain ⟨i0, hi, hz0, hz1, hz2⟩ := H.info
  have hrun := run_append_room (P := Try.prog) w E.slice o.type E.elem i0 H.hs hi g n cap cur hg ad m c news (by rw [hz1]; exact hn) hc h1c hroom (by rw [hz1]; exact hfit)
  rw [hz1] at hrun
  unfold Oper.wp execOp
  simp only [hop, resolve, invoke, builtin, Sem.run_bind, Sem.run_pure, Result.andThen_ok, List.map_toArray, List.map_cons, List.map_nil, hs, hx, hrun]
  exact hK
end Go.Proofs.Ytagogbodkbbikaa
