import Derived.Test.YtfamnloobmdhdaaDoorProg
import Derived.WalkKit
import Derived.WalkSpells
import Derived.WalkLawsBesides
import Derived.BigQuiet
import Derived.KernelRfl
import Derived.Laws.StructEq
import Derived.Laws.Tables
import Derived.Laws.Rows
import Derived.Great.BuildSlice
import Derived.Laws.AppendOwn
import Derived.Laws.OwnMore
import Derived.Maps.AppendAt
namespace Go.Proofs.YtfamnloobmdhdaaDoor
open Go Go.RowKit
set_option maxRecDepth 20000

theorem ret_bool {a b : Bool} (h : a = b) : Ending.returned (.bool a) = .returned (.bool b) := by rw [h]
def hv (L : List Int) : Array Value := (L.map (Value.int .u8)).toArray
def Byt (L : List Int) : Prop := L.length = 13 ∧ ∀ k, 0 ≤ L.getD k 0 ∧ L.getD k 0 < 256

theorem hv_size (L : List Int) : (hv L).size = L.length := by simp [hv]
theorem hv_at (L : List Int) (hL : L.length = 13) (k : Nat) (hk : k < 13) : (hv L)[k]? = some (.int .u8 (L.getD k 0)) := by
  unfold hv
  simp [List.getElem?_map, List.getElem?_eq_getElem (show k < L.length by omega), List.getD]
structure Later (W : World) where
  world : World
  below : Below W.heap.size W world

theorem Later.ne (W : World) : Nonempty (Later W) := ⟨⟨W, Below.refl _ _⟩⟩

theorem wp_region_later {P : Program} {id : Nat} {Q : Exit → Act → World → Prop} {a : Act} {w : World} {l : List Oper} (hm : P.follows .mixedOrders = true) (hB : Region.lexB .any l.toArray = true)
    (h : wpQuiet P l.toArray (fun w' => ∃ u : Later w, w' = u.world) (fun a' => ∀ w', (∃ u : Later w, w' = u.world) → Q .normal a' w') l a) : (Code.region id l.toArray true).wp P Q a w :=
  wp_region_quiet (C := fun w' => ∃ u : Later w, w' = u.world) hm hB ⟨⟨w.drew, (Below.refl _ _).drew⟩, rfl⟩ (by simpa using h)

theorem Calls.later_of {P : Program} {f : FuncId} {args : Array Value} {W : World} {u : Later W} {v : Value}
    (h : Calls P f args u.world fun e w' => e = .returned v ∧ Below u.world.heap.size u.world w') : Calls P f args u.world fun e w'' => e = .returned v ∧ ∃ u' : Later W, w'' = u'.world :=
  h.mono fun _ w1 ⟨he, hb⟩ => ⟨he, ⟨w1, u.below.trans (hb.mono u.below.size)⟩, rfl⟩

theorem q_load_row {P : Program} {ops : Array Oper} {C : World → Prop} {Q : Act → Prop} {rest : List Oper} {o : Oper} {a : Act} (hw : Region.wanted o (yielded ops a.tmps) = true) (ty : TypeId) (x : Operand) (ho : o.op = .load ty x)
    (g : Nat) (hx : a.eval x = .pointer (some ⟨g, 0, none⟩)) (t : TypeId) (cs : Array Value) (fr : Nat × Nat) (d : TypeDesc) (hg : ∀ w', C w' → w'.heap[g]? = some (.cells cs t fr))
    (hu : P.underlying ty = some d) (hd : (match d with | .struct _ | .array _ _ => true | _ => false) = true) (hi : (P.info? ty).map (·.size) = some cs.size)
    (h : wpQuiet P ops C Q rest (a.put o.dst (.agg cs))) : wpQuiet P ops C Q (o :: rest) a := by
  refine BigFrame.wpQuiet_want hw fun K hK => ⟨.agg cs, fun w hC => ?_, hK _ h⟩
  unfold Oper.quietAt execOp
  simp only [ho, hx, Instr.loadAt, Instr.sureAddr, Sem.run_bind, Sem.run_pure, Result.andThen_ok, run_loadVar_row w g t ty cs fr d (hg w hC) hu hd hi]
  exact ⟨rfl, rfl⟩

theorem later_block {W : World} {g : Nat} {o : Obj} (h : W.heap[g]? = some o) : ∀ w', (∃ u : Later W, w' = u.world) → w'.heap[g]? = some o := by
  rintro w' ⟨u, rfl⟩
  have hlt : g < W.heap.size := by
    rcases Array.getElem?_eq_some_iff.1 h with ⟨hl, _⟩
    exact hl
  rw [u.below.block g hlt, h]

theorem size26 (L : List Int) (hL : L.length = 13) : (Tryd.prog.info? 37).map (·.size) = some (hv L).size := by
  rw [hv_size, hL]; kernel_rfl

/-- A whole header is read out of its block. -/
theorem wl_load26 {ops : Array Oper} {rest : List Oper} {o : Oper} {a : Act} {w : World} {Q : Exit → Act → World → Prop} (hgd : o.guard = none) (x : Operand) (ho : o.op = .load 37 x)
    (g : Nat) (hx : a.eval x = .pointer (some ⟨g, 0, none⟩)) (L : List Int) (hg : w.heap[g]? = some (.cells (hv L) 37 (0, 0))) (hL : L.length = 13)
    (h : wpList Tryd.prog ops Q rest (a.put o.dst (.agg (hv L))) w) : wpList Tryd.prog ops Q (o :: rest) a w :=
  wpList_load_row hgd 37 x ho g hx 37 (hv L) (0, 0) _ hg Tryd.underlying37 rfl (size26 L hL) h

theorem setRow_new (w : World) (old cs : Array Value) (t : TypeId) (g : Nat) (hg : g = w.heap.size) : (w.alloc (.cells old t)).setRow g cs = w.alloc (.cells cs t) := by
  subst hg
  simp only [World.setRow, World.alloc]
  congr 1
  apply Array.ext
  · simp
  · intro k h1 h2
    simp only [Array.getElem_modify, Array.getElem_push]
    by_cases hk : k < w.heap.size
    · simp [hk, show ¬ w.heap.size = k by omega]
    · have : w.heap.size = k := by simp at h2; omega
      simp [this]

theorem below_setRow {B : Nat} {a w : World} (h : Below B a w) {g : Nat} (hg : B ≤ g) (cs : Array Value) : Below B a (w.setRow g cs) :=
  ⟨h.os, h.tape, h.output, by simpa using h.size, fun k hk => (setRow_other w g k cs (by omega)).trans (h.block k hk)⟩

theorem heap_new (w : World) (o : Obj) (g : Nat) (hg : g = w.heap.size) : (w.alloc o).heap[g]? = some o := by rw [hg]; exact heap_alloc_new w o
theorem heap_past (w : World) (o x : Obj) (g : Nat) (h : w.heap[g]? = some x) : (w.alloc o).heap[g]? = some x := by
  rw [Below.heap_alloc w o g (Array.getElem?_eq_some_iff.1 h).1]; exact h

end Go.Proofs.YtfamnloobmdhdaaDoor
namespace Go.Proofs.YtfamnloobmdhdaaDoor
open Go Go.RowKit
set_option maxRecDepth 20000

/-- A type of elements that are structs or arrays, and the type of its slices. -/
structure El where
  elem : TypeId
  slice : TypeId
  size : Nat
  bytes : Nat
  zero : Array Value
/-- What the program says of it. -/
structure El.Ok (E : El) : Prop where
  hs : Tryd.prog.underlying E.slice = some (.slice E.elem)
  hu : ∃ d, Tryd.prog.underlying E.elem = some d ∧ (match d with | .struct _ | .array _ _ => true | _ => false) = true
  hi : (Tryd.prog.info? E.elem).map (fun i => (i.zero, i.size, i.bytes)) = some (some (.agg E.zero), E.size, E.bytes)
  hz : E.zero.size = E.size
  hp : 0 < E.size
  hb : E.bytes ≤ 100000
  hn : E.size ≤ 100000
theorem El.Ok.info {E : El} (H : E.Ok) : ∃ i, Tryd.prog.info? E.elem = some i ∧ i.zero = some (.agg E.zero) ∧ i.size = E.size ∧ i.bytes = E.bytes := by
  have h1 := H.hi
  cases h : Tryd.prog.info? E.elem with
  | none => rw [h] at h1; simp at h1
  | some i =>
    rw [h] at h1
    simp only [Option.map_some, Option.some.injEq, Prod.mk.injEq] at h1
    exact ⟨i, rfl, h1.1, h1.2.1, h1.2.2⟩
theorem El.Ok.cellsz {E : El} (H : E.Ok) (cs : Array Value) (hc : cs.size = E.size) : (Tryd.prog.info? E.elem).map (·.size) = some cs.size := by
  obtain ⟨i, h1, _, h2, _⟩ := H.info
  rw [h1, Option.map_some, h2, hc]

/-- A value that is laid in cells, one each. -/
def Fits (E : El) (cs : Array Value) : Prop := cs.size = E.size ∧ cs.all (·.oneCell') = true

/-- An element that lies within a block, from a place on. -/
theorem El.Ok.load {E : El} (H : E.Ok) (w : World) (g off : Nat) (cur : Array Value) (t : TypeId) (fr : Nat × Nat) (cs : Array Value) (hcs : cs.size = E.size) (hg : w.heap[g]? = some (.cells cur t fr)) (hc : ∀ j, j < E.size → cur[off + j]? = cs[j]?) :
    (loadVar E.elem ⟨g, off, none⟩).run Tryd.prog w = .ok (.agg cs) w := by
  have hl : (loadCells ⟨g, off, none⟩ cs.toList.length).run Tryd.prog w = .ok cs.toList.toArray w :=
    run_loadCells_list (P := Tryd.prog) w ⟨g, off, none⟩ cs.toList (fun j v hv => by
      have hadd : (⟨g, off, none⟩ : Addr).add j = ⟨g, off + j, none⟩ := by unfold Addr.add; split <;> simp_all
      have hj : j < E.size := by
        have := (List.getElem?_eq_some_iff.1 hv).1
        rw [Array.length_toList] at this
        omega
      rw [hadd, cell_of_row w g (off + j) cur t fr hg, hc j hj]
      simpa using hv)
  obtain ⟨i, hq, _, hs, _⟩ := H.info
  have hagg : (isAgg E.elem).run Tryd.prog w = .ok true w := by
    obtain ⟨d, hd, hm⟩ := H.hu
    unfold isAgg
    rw [Sem.run_bind, run_underlying hd w]
    revert hm
    cases d <;> simp [go_sem]
  rw [Array.length_toList, hcs, Array.toArray_toList] at hl
  simp [loadVar, Sem.run_bind, hagg, sizeOf, typeInfo, hq, hs, hl]
theorem wl_loadE {E : El} (H : E.Ok) {ops : Array Oper} {rest : List Oper} {o : Oper} {a : Act} {w : World} {Q : Exit → Act → World → Prop} (hw : Region.wanted o (yielded ops a.tmps) = true) (x : Operand) (ho : o.op = .load E.elem x)
    (g off : Nat) (hx : a.eval x = .pointer (some ⟨g, off, none⟩)) (cur : Array Value) (t : TypeId) (fr : Nat × Nat) (cs : Array Value) (hcs : cs.size = E.size) (hg : w.heap[g]? = some (.cells cur t fr)) (hc : ∀ j, j < E.size → cur[off + j]? = cs[j]?)
    (h : wpList Tryd.prog ops Q rest (a.put o.dst (.agg cs)) w) : wpList Tryd.prog ops Q (o :: rest) a w := by
  refine wpList_step fun K hK => ?_
  rw [if_pos hw]
  unfold Oper.wp execOp
  simp only [ho, hx, Instr.loadAt, Instr.sureAddr, Sem.run_bind, Sem.run_pure, Result.andThen_ok, H.load w g off cur t fr cs hcs hg hc]
  exact hK _ _ h
theorem own_cells (n : Nat) (cs : Array Value) : ∀ j, j < n → cs[0 + j]? = cs[j]? := fun j _ => by rw [Nat.zero_add]
theorem wl_storeE {E : El} (H : E.Ok) {ops : Array Oper} {rest : List Oper} {o : Oper} {a : Act} {w : World} {Q : Exit → Act → World → Prop} (hgd : o.guard = none) (x y : Operand) (ho : o.op = .store E.elem x y)
    (g : Nat) (cs : Array Value) (hf : Fits E cs) (hx : a.eval x = .pointer (some ⟨g, 0, none⟩)) (hy : a.eval y = .agg cs) (old : Array Value) (hg : w.heap[g]? = some (.cells old E.elem (0, 0))) (hold : old.size = E.size)
    (w' : World) (hw' : w.setRow g cs = w')
    (h : wpList Tryd.prog ops Q rest (a.put o.dst undef) w') : wpList Tryd.prog ops Q (o :: rest) a w :=
  wpList_store_row hgd E.elem x y ho g cs hx hy E.elem old hg (H.cellsz cs hf.1) (by rw [hf.1, hold]) hf.2 (by rw [hw']; exact h)
theorem qlE {E : El} (H : E.Ok) {C : World → Prop} {ops : Array Oper} {Q : Act → Prop} {rest : List Oper} {o : Oper} {a : Act} (hw : Region.wanted o (yielded ops a.tmps) = true) (x : Operand) (ho : o.op = .load E.elem x)
    (g off : Nat) (hx : a.eval x = .pointer (some ⟨g, off, none⟩)) (cur : Array Value) (t : TypeId) (fr : Nat × Nat) (cs : Array Value) (hcs : cs.size = E.size) (hg : ∀ w', C w' → w'.heap[g]? = some (.cells cur t fr)) (hc : ∀ j, j < E.size → cur[off + j]? = cs[j]?)
    (h : wpQuiet Tryd.prog ops C Q rest (a.put o.dst (.agg cs))) : wpQuiet Tryd.prog ops C Q (o :: rest) a := by
  refine BigFrame.wpQuiet_want hw fun K hK => ⟨.agg cs, fun w hC => ?_, hK _ h⟩
  unfold Oper.quietAt execOp
  simp only [ho, hx, Instr.loadAt, Instr.sureAddr, Sem.run_bind, Sem.run_pure, Result.andThen_ok, H.load w g off cur t fr cs hcs (hg w hC) hc]
  exact ⟨rfl, rfl⟩

/-- The cells of a list of elements. -/
def gcells {α : Type} (enc : α → Array Value) (C : List α) : List Value := C.flatMap fun c => (enc c).toList
theorem gcells_append {α : Type} (enc : α → Array Value) (C D : List α) : gcells enc (C ++ D) = gcells enc C ++ gcells enc D := by simp [gcells]
theorem gcells_one {α : Type} (enc : α → Array Value) (c : α) : gcells enc [c] = (enc c).toList := by simp [gcells]
theorem gcells_cons {α : Type} (enc : α → Array Value) (c : α) (C : List α) : gcells enc (c :: C) = (enc c).toList ++ gcells enc C := by simp [gcells]
theorem gcells_at {α : Type} (enc : α → Array Value) (n : Nat) : ∀ (C : List α), (∀ c ∈ C, (enc c).size = n) → ∀ (i : Nat) (hi : i < C.length) (j : Nat), j < n → (gcells enc C)[n * i + j]? = (enc C[i])[j]?
  | [], _, i, hi, _, _ => absurd hi (by simp)
  | c :: C, h, 0, _, j, hj => by
    have h1 := h c (by simp)
    rw [gcells_cons, Nat.mul_zero, Nat.zero_add, List.getElem?_append_left (by rw [Array.length_toList, h1]; exact hj)]
    simp
  | c :: C, h, i + 1, hi, j, hj => by
    have h1 := h c (by simp)
    have ih := gcells_at enc n C (fun d hd => h d (by simp [hd])) i (by simpa using hi) j hj
    rw [gcells_cons, show n * (i + 1) + j = n + (n * i + j) by rw [Nat.mul_add, Nat.mul_one]; omega, List.getElem?_append_right (by rw [Array.length_toList, h1]; omega), Array.length_toList, h1, Nat.add_sub_cancel_left]
    simpa using ih

theorem gfold_get (off : Nat) : ∀ (xs : List Value) (n : Nat) (cells : Array Value) (k : Nat), off + n + xs.length ≤ cells.size →
    ((xs.zipIdx n).foldl (fun cs (x : Value × Nat) => cs.setIfInBounds (off + x.2) x.1) cells)[k]? = if off + n ≤ k ∧ k < off + n + xs.length then xs[k - (off + n)]? else cells[k]?
  | [], n, cells, k, _ => by
    simp only [List.zipIdx_nil, List.foldl_nil, List.length_nil, Nat.add_zero]
    rw [if_neg (by omega)]
  | x :: xs, n, cells, k, h => by
    simp only [List.length_cons] at h
    rw [List.zipIdx_cons, List.foldl_cons, gfold_get off xs (n + 1) _ k (by simp; omega)]
    simp only [List.length_cons]
    by_cases h1 : off + (n + 1) ≤ k ∧ k < off + (n + 1) + xs.length
    · rw [if_pos h1, if_pos (by omega), show k - (off + n) = (k - (off + (n + 1))) + 1 by omega, List.getElem?_cons_succ]
    · rw [if_neg h1]
      by_cases h2 : k = off + n
      · subst h2
        rw [if_pos (by omega), Nat.sub_self, List.getElem?_cons_zero, Array.getElem?_setIfInBounds_self_of_lt (by omega)]
      · rw [if_neg (by omega), Array.getElem?_setIfInBounds_ne (by omega)]
theorem gfold_all (xs cells : Array Value) (h : xs.size = cells.size) : xs.zipIdx.foldl (fun cs (x : Value × Nat) => cs.setIfInBounds (0 + x.2) x.1) cells = xs := by
  have e : xs.zipIdx.foldl (fun cs (x : Value × Nat) => cs.setIfInBounds (0 + x.2) x.1) cells = (xs.toList.zipIdx 0).foldl (fun cs (x : Value × Nat) => cs.setIfInBounds (0 + x.2) x.1) cells := by
    rw [← Array.foldl_toList]; simp
  rw [e]
  apply Array.ext_getElem?
  intro k
  rw [gfold_get 0 xs.toList 0 cells k (by simp; omega)]
  by_cases hk : k < xs.size
  · rw [if_pos (by simp; omega)]; simp
  · rw [if_neg (by simp; omega), Array.getElem?_eq_none (by omega), Array.getElem?_eq_none (by omega)]

set_option maxRecDepth 20000 in
/-- A slice of one element. -/
theorem wl_buildE {E : El} (H : E.Ok) {ops : Array Oper} {rest : List Oper} {o : Oper} {a : Act} {w : World} {Q : Exit → Act → World → Prop} (hg : o.guard = none) (x : Operand) (ho : o.op = .buildSlice E.slice 1 #[(0, x)]) (cs : Array Value) (hcs : cs.size = E.size) (hx : a.eval x = .agg cs)
    (h : wpList Tryd.prog ops Q rest (a.put o.dst (.slice (some ⟨w.heap.size, 0, none⟩) 1 1)) (w.alloc (.cells cs E.elem))) : wpList Tryd.prog ops Q (o :: rest) a w := by
  obtain ⟨ie, hie, hz, hs, _⟩ := H.info
  refine wpList_buildSlice hg E.slice E.elem 1 _ ho cs ie (.agg E.zero) H.hs hie hz (by rw [hs]; have := H.hn; omega) (by rw [hs]; have := H.hp; omega) ?_ h
  simp only [List.map_toArray, List.map_cons, List.map_nil, hx, Instr.fill, hs, Nat.zero_mul, Value.cells, hcs]
  rw [if_neg (by simp)]
  congr 1
  exact gfold_all _ _ (by rw [hcs]; simp)

/-- One element appended to one's own row of them, and where the new row lies. -/
theorem wl_appendE {E : El} (H : E.Ok) {α : Type} (enc : α → Array Value) {ops : Array Oper} {rest : List Oper} {o : Oper} {a : Act} {w : World} {Q : Exit → Act → World → Prop} (hgd : o.guard = none) (s x : Operand) (ho : o.op = .call { callee := .builtin .append, args := #[s, x], argTypes := #[E.slice, E.slice] })
    (base : Nat) (v : Value) (C : List α) (c : α) (hf : Fits E (enc c)) (hs : a.eval s = v) (hown : w.ownsRow base E.elem E.size v C.length (gcells enc C)) (g cap : Nat) (hx : a.eval x = .slice (some ⟨g, 0, none⟩) 1 cap) (hg : w.heap[g]? = some (.cells (enc c) E.elem (0, 0)))
    (hn : C.length ≤ 1000000) (hbase : base ≤ w.heap.size)
    (h : ∀ v' w', w'.ownsRow base E.elem E.size v' (C ++ [c]).length (gcells enc (C ++ [c])) → w.grownBy w' v.ownBlock → (v'.ownBlock = v.ownBlock ∨ v'.ownBlock = some w.heap.size) → wpList Tryd.prog ops Q rest (a.put o.dst v') w') : wpList Tryd.prog ops Q (o :: rest) a w := by
  obtain ⟨i0, hi, hz0, hz1, hz2⟩ := H.info
  have hb := H.hb
  refine wpList_append_own_at _ hgd s x E.slice ho base E.elem i0 (.agg E.zero) E.size E.bytes H.hs hi hz0 hz1 hz2 (by simpa [Value.cells] using H.hz) H.hp v _ _ hs hown ⟨g, 0, none⟩ 1 cap (enc c).toList hx (by rw [Array.length_toList, hf.1, Nat.one_mul]) (fun j y hy => ?_) (fun u hu => ?_) (by unfold maxLen; omega) ?_ hbase ?_
  · have hadd : (⟨g, 0, none⟩ : Addr).add j = ⟨g, j, none⟩ := by unfold Addr.add; split <;> simp_all
    rw [hadd, cell_of_row w g j _ _ _ hg, ← hy]
    simp
  · exact (Array.all_eq_true_iff_forall_mem.1 hf.2) u (by simpa using hu)
  · exact Nat.le_trans (Nat.mul_le_mul (show C.length + 1 ≤ 1000001 by omega) hb) (by decide)
  · intro v' w' h5 h6 _ h7
    refine h v' w' ?_ h6 h7
    rw [List.length_append, gcells_append, gcells_one]; exact h5

/-- A slice, wherever it lies, whose elements are these. -/
def GSl {α : Type} (E : El) (enc : α → Array Value) (w : World) (v : Value) (C : List α) : Prop :=
  ∃ (o : Option Addr) (cap : Nat), v = .slice o C.length cap ∧ C.length ≤ cap ∧ cap ≤ maxLen ∧ ∀ (i : Nat) (hi : i < C.length), ∃ g off cur t fr, o = some ⟨g, off, none⟩ ∧ w.heap[g]? = some (.cells cur t fr) ∧ ∀ j, j < E.size → cur[off + i * E.size + j]? = (enc C[i])[j]?
theorem GSl.below {α : Type} {E : El} {enc : α → Array Value} {w w' : World} {v : Value} {C : List α} (h : GSl E enc w v C) (hb : Below w.heap.size w w') : GSl E enc w' v C := by
  obtain ⟨o, cap, rfl, h1, h2, h3⟩ := h
  refine ⟨o, cap, rfl, h1, h2, fun i hi => ?_⟩
  obtain ⟨g, off, cur, t, fr, h4, h5, h6⟩ := h3 i hi
  exact ⟨g, off, cur, t, fr, h4, (hb.block g (Array.getElem?_eq_some_iff.1 h5).1).trans h5, h6⟩
theorem GSl.slice {α : Type} {E : El} {enc : α → Array Value} {w : World} {v : Value} {C : List α} (h : GSl E enc w v C) : ∃ (o : Option Addr) (cap : Nat), v = .slice o C.length cap ∧ C.length ≤ cap ∧ cap ≤ maxLen := by
  obtain ⟨o, cap, h1, h2, h3, _⟩ := h
  exact ⟨o, cap, h1, h2, h3⟩
theorem GSl.at {α : Type} {E : El} {enc : α → Array Value} {w : World} {o : Option Addr} {n cap : Nat} {C : List α} (h : GSl E enc w (.slice o n cap) C) (k : Nat) (hk : k < n) :
    ∃ g off cur t fr, ∃ c : α, o = some ⟨g, off, none⟩ ∧ w.heap[g]? = some (.cells cur t fr) ∧ (∀ j, j < E.size → cur[off + k * E.size + j]? = (enc c)[j]?) ∧ C[k]? = some c := by
  obtain ⟨o', cap', h1, _, _, h3⟩ := h
  simp only [Value.slice.injEq] at h1
  obtain ⟨rfl, rfl, rfl⟩ := h1
  obtain ⟨g, off, cur, t, fr, h4, h5, h6⟩ := h3 k hk
  exact ⟨g, off, cur, t, fr, C[k], h4, h5, h6, List.getElem?_eq_getElem hk⟩
theorem gsl_of {α : Type} {E : El} {enc : α → Array Value} {w : World} {B : Nat} {v : Value} {C : List α} (h : w.ownsRow B E.elem E.size v C.length (gcells enc C)) (hC : ∀ c ∈ C, (enc c).size = E.size) : GSl E enc w v C := by
  obtain ⟨h1, ⟨rfl, h2⟩ | ⟨g, cap, cur, rfl, hB, hcur, h5, h6, _, h4⟩⟩ := h
  · exact ⟨none, 0, by rw [h2], by omega, Nat.zero_le _, fun i hi => by omega⟩
  · refine ⟨_, cap, rfl, h5, h6, fun i hi => ⟨g, 0, cur, _, _, rfl, hcur, fun j hj => ?_⟩⟩
    have hlt : E.size * i + j < C.length * E.size := by
      have : E.size * (i + 1) ≤ E.size * C.length := Nat.mul_le_mul_left _ hi
      rw [Nat.mul_add, Nat.mul_one] at this
      rw [Nat.mul_comm C.length]
      omega
    rw [← gcells_at enc E.size C hC i hi j hj, ← h4, List.getElem?_take_of_lt hlt, Nat.zero_add, Nat.mul_comm]
    simp
theorem gown_slice {w : World} {B : Nat} {e : TypeId} {s : Nat} {v : Value} {n : Nat} {xs : List Value} (h : w.ownsRow B e s v n xs) : ∃ o cap, v = .slice o n cap := by
  obtain ⟨_, ⟨rfl, rfl⟩ | ⟨g, cap, cur, rfl, _⟩⟩ := h
  · exact ⟨none, 0, rfl⟩
  · exact ⟨_, cap, rfl⟩
theorem gown_below {w w' : World} {B : Nat} {e : TypeId} {s : Nat} {v : Value} {n : Nat} {xs : List Value} (h : w.ownsRow B e s v n xs) (hb : Below w.heap.size w w') : w'.ownsRow B e s v n xs := by
  obtain ⟨h1, h2 | ⟨g, cap, cur, rfl, hB, hcur, h3⟩⟩ := h
  · exact ⟨h1, .inl h2⟩
  · exact ⟨h1, .inr ⟨g, cap, cur, rfl, hB, (hb.block g (Array.getElem?_eq_some_iff.1 hcur).1).trans hcur, h3⟩⟩
theorem gown_ne {w : World} {B : Nat} {e : TypeId} {s : Nat} {v : Value} {n : Nat} {xs : List Value} (h : w.ownsRow B e s v n xs) {g : Nat} (hg : w.heap.size ≤ g) : v.ownBlock ≠ some g := fun hq => by
  have := (h.lt g hq).2
  omega
theorem gown_base {w : World} {B B' : Nat} {e : TypeId} {s : Nat} {v : Value} {n : Nat} {xs : List Value} (h : w.ownsRow B e s v n xs) (hB' : B' ≤ B) : w.ownsRow B' e s v n xs := by
  obtain ⟨h1, h2 | ⟨g', cap, cur, rfl, hB, h3⟩⟩ := h
  · exact ⟨h1, .inl h2⟩
  · exact ⟨h1, .inr ⟨g', cap, cur, rfl, by omega, h3⟩⟩
end Go.Proofs.YtfamnloobmdhdaaDoor
namespace Go.Proofs.YtfamnloobmdhdaaDoor
open Go
set_option maxRecDepth 20000

/-- A token. -/
structure Tok where
  kind : Nat
  pos : Nat
  text : List UInt8
  num : Nat

def isLet (c : UInt8) : Bool := decide (97 ≤ c.toNat) && decide (c.toNat ≤ 122)
def isDig (c : UInt8) : Bool := decide (48 ≤ c.toNat) && decide (c.toNat ≤ 57)
def isBlank (c : UInt8) : Bool := c == 9 || c == 13 || c == 32
def notEnd (c : UInt8) : Bool := c != 10
/-- Digits as a number. -/
def val (D : List UInt8) : Nat := D.foldl (fun n c => n * 10 + (c.toNat - 48)) 0
/-- Digits as a number that may be. -/
def numOf (D : List UInt8) : Option Nat := if decide (4294967295 < val D) || (decide (1 < D.length) && D.head? == some 48) then none else some (val D)

/-- What begins at a place: nothing, a token, or something wrong. -/
abbrev Lx := Except Nat (Option (Nat × List UInt8 × Nat))
abbrev Lx.none : Lx := Except.ok Option.none
abbrev Lx.tok (k : Nat) (t : List UInt8) (v : Nat) : Lx := Except.ok (some (k, t, v))
abbrev Lx.err (e : Nat) : Lx := Except.error e

/-- What begins with a byte, and how many more bytes it has. -/
def lexeme (c : UInt8) (r : List UInt8) : Lx × Nat :=
  if isBlank c then (Lx.none, 0)
  else if isLet c then (Lx.tok 1 (c :: r.takeWhile isLet) 0, (r.takeWhile isLet).length)
  else if isDig c then (match numOf (c :: r.takeWhile isDig) with | some n => Lx.tok 2 [] n | Option.none => Lx.err 7, (r.takeWhile isDig).length)
  else if c == 46 then (Lx.tok 3 [] 0, 0)
  else if c == 47 then (Lx.tok 4 [] 0, 0)
  else if c == 45 then (if r.head? == some 62 then (Lx.tok 6 [] 0, 1) else (Lx.tok 5 [] 0, 0))
  else if c == 10 then (Lx.tok 7 [] 0, 0)
  else if c == 35 then (Lx.none, (r.takeWhile notEnd).length)
  else (Lx.err 6, 0)

/-- Tokens ahead of what comes to be. -/
def glue (P : List Tok) : Except (Nat × Nat) (List Tok) → Except (Nat × Nat) (List Tok)
  | .ok l => .ok (P ++ l)
  | .error x => .error x
theorem glue_glue (P Q : List Tok) (x : Except (Nat × Nat) (List Tok)) : glue P (glue Q x) = glue (P ++ Q) x := by
  cases x <;> simp [glue]
theorem glue_nil (x : Except (Nat × Nat) (List Tok)) : glue [] x = x := by cases x <;> rfl

/-- The tokens of a text that begins at a place, so many steps at most. -/
def lexF : Nat → Nat → List UInt8 → Except (Nat × Nat) (List Tok)
  | 0, _, _ => .ok []
  | _ + 1, _, [] => .ok []
  | f + 1, p, c :: r => match lexeme c r with
    | (.ok Option.none, n) => lexF f (p + 1 + n) (r.drop n)
    | (.ok (some (k, t, v)), n) => glue [⟨k, p, t, v⟩] (lexF f (p + 1 + n) (r.drop n))
    | (.error e, _) => .error (e, p)
/-- The tokens of a text that begins at a place. -/
def lexW (p : Nat) (S : List UInt8) : Except (Nat × Nat) (List Tok) := lexF S.length p S
theorem lexF_more : ∀ (f g p : Nat) (S : List UInt8), S.length ≤ f → S.length ≤ g → lexF f p S = lexF g p S
  | 0, 0, _, _, _, _ => rfl
  | 0, g + 1, p, S, hf, _ => by
    obtain rfl : S = [] := List.eq_nil_of_length_eq_zero (by omega)
    rfl
  | f + 1, 0, p, S, _, hg => by
    obtain rfl : S = [] := List.eq_nil_of_length_eq_zero (by omega)
    rfl
  | f + 1, g + 1, p, [], _, _ => rfl
  | f + 1, g + 1, p, c :: r, hf, hg => by
    have hl : ∀ n, (r.drop n).length ≤ f ∧ (r.drop n).length ≤ g := fun n => by simp at hf hg ⊢; omega
    have ih : ∀ q n, lexF f q (r.drop n) = lexF g q (r.drop n) := fun q n => lexF_more f g q (r.drop n) (hl n).1 (hl n).2
    simp only [lexF, ih]

theorem lexW_nil (p : Nat) : lexW p [] = .ok [] := rfl
theorem lexW_none {p : Nat} {c : UInt8} {r : List UInt8} {n : Nat} (h : lexeme c r = (Lx.none, n)) : lexW p (c :: r) = lexW (p + 1 + n) (r.drop n) := by
  unfold lexW
  rw [List.length_cons, lexF, h]
  exact lexF_more _ _ _ _ (by simp) (Nat.le_refl _)
theorem lexW_tok {p : Nat} {c : UInt8} {r : List UInt8} {n k v : Nat} {t : List UInt8} (h : lexeme c r = (Lx.tok k t v, n)) : lexW p (c :: r) = glue [⟨k, p, t, v⟩] (lexW (p + 1 + n) (r.drop n)) := by
  unfold lexW
  rw [List.length_cons, lexF, h]
  exact congrArg (glue _) (lexF_more _ _ _ _ (by simp) (Nat.le_refl _))
theorem lexW_err {p : Nat} {c : UInt8} {r : List UInt8} {n e : Nat} (h : lexeme c r = (Lx.err e, n)) : lexW p (c :: r) = .error (e, p) := by
  unfold lexW
  rw [List.length_cons, lexF, h]

/-- An induction along the text. -/
theorem lexW_induct (Q : Nat → List UInt8 → Prop) (h0 : ∀ p, Q p []) (h1 : ∀ p c r n, lexeme c r = (Lx.none, n) → Q (p + 1 + n) (r.drop n) → Q p (c :: r))
    (h2 : ∀ p c r n k t v, lexeme c r = (Lx.tok k t v, n) → Q (p + 1 + n) (r.drop n) → Q p (c :: r)) (h3 : ∀ p c r n e, lexeme c r = (Lx.err e, n) → Q p (c :: r)) : ∀ S p, Q p S := by
  have key : ∀ d (S : List UInt8) p, S.length ≤ d → Q p S := by
    intro d
    induction d with
    | zero => intro S p hS; obtain rfl : S = [] := List.eq_nil_of_length_eq_zero (by omega); exact h0 p
    | succ d ih =>
      intro S p hS
      cases S with
      | nil => exact h0 p
      | cons c r =>
        have hl : ∀ n, (r.drop n).length ≤ d := fun n => by simp at hS ⊢; omega
        rcases hx : lexeme c r with ⟨x, n⟩
        rcases x with e | _ | ⟨k, t, v⟩
        · exact h3 p c r n e hx
        · exact h1 p c r n hx (ih _ _ (hl n))
        · exact h2 p c r n k t v hx (ih _ _ (hl n))
  exact fun S p => key _ S p (Nat.le_refl _)

theorem takeWhile_le (q : UInt8 → Bool) (r : List UInt8) : (r.takeWhile q).length ≤ r.length := (List.takeWhile_prefix q).length_le
theorem takeWhile_take (q : UInt8 → Bool) : ∀ r : List UInt8, r.take (r.takeWhile q).length = r.takeWhile q
  | [] => rfl
  | c :: r => by
    rw [List.takeWhile_cons]
    cases h : q c
    · simp
    · simp [takeWhile_take q r]
/-- No lexeme has more bytes than there are. -/
theorem lexeme_le (c : UInt8) (r : List UInt8) : (lexeme c r).2 ≤ r.length := by
  unfold lexeme
  have h1 := takeWhile_le isLet r
  have h2 := takeWhile_le isDig r
  have h3 := takeWhile_le notEnd r
  repeat' split
  all_goals first | exact Nat.zero_le _ | exact h1 | exact h2 | exact h3 | skip
  rename_i h
  cases r with
  | nil => simp at h
  | cons d r => simp
theorem lexeme_word {c : UInt8} {r : List UInt8} {n k v : Nat} {t : List UInt8} (h : lexeme c r = (Lx.tok k t v, n)) (hk : k = 1) : t = c :: r.take n := by
  unfold lexeme at h
  repeat' split at h
  all_goals simp only [Prod.mk.injEq, Except.ok.injEq, Option.some.injEq, reduceCtorEq, false_and] at h
  · obtain ⟨⟨_, rfl, _⟩, rfl⟩ := h
    rw [takeWhile_take]
  all_goals try omega
  all_goals
    split at h
    · simp only [Except.ok.injEq, Option.some.injEq, Prod.mk.injEq] at h; omega
    · simp at h

/-- Tokens lie within the text, and rise; a word stands where it is told to. -/
theorem lexW_places : ∀ (S : List UInt8) (p : Nat) (l : List Tok), lexW p S = .ok l →
    (∀ (i : Nat) (t : Tok), l[i]? = some t → p ≤ t.pos ∧ t.pos < p + S.length ∧ (t.kind = 1 → t.pos + t.text.length ≤ p + S.length ∧ (S.drop (t.pos - p)).take t.text.length = t.text)) ∧
    (∀ (i : Nat) (a b : Tok), l[i]? = some a → l[i + 1]? = some b → a.pos < b.pos) ∧ l.length ≤ S.length := by
  refine lexW_induct _ (fun p l h => ?_) (fun p c r n hx ih l h => ?_) (fun p c r n k t v hx ih l h => ?_) (fun p c r n e hx l h => ?_)
  · rw [lexW_nil] at h
    obtain rfl : [] = l := Except.ok.inj h
    refine ⟨fun i t ht => by simp at ht, fun i a b ha => by simp at ha, Nat.zero_le _⟩
  · rw [lexW_none hx] at h
    have hn : n ≤ r.length := by have := lexeme_le c r; rw [hx] at this; exact this
    have hl : (r.drop n).length = r.length - n := List.length_drop
    obtain ⟨h1, h2, h3⟩ := ih l h
    refine ⟨fun i t ht => ?_, h2, by simp at h3 ⊢; omega⟩
    obtain ⟨g1, g2, g3⟩ := h1 i t ht
    refine ⟨by omega, by simp; omega, fun hk => ?_⟩
    obtain ⟨g4, g5⟩ := g3 hk
    refine ⟨by simp; omega, ?_⟩
    rw [show t.pos - p = (n + (t.pos - (p + 1 + n))) + 1 by omega, List.drop_succ_cons, ← List.drop_drop]
    exact g5
  · rw [lexW_tok hx] at h
    have hn : n ≤ r.length := by have := lexeme_le c r; rw [hx] at this; exact this
    have hl : (r.drop n).length = r.length - n := List.length_drop
    cases hy : lexW (p + 1 + n) (r.drop n) with
    | error x => rw [hy] at h; simp [glue] at h
    | ok l' =>
      rw [hy] at h
      obtain rfl : ⟨k, p, t, v⟩ :: l' = l := by simpa [glue] using h
      obtain ⟨h1, h2, h3⟩ := ih l' hy
      refine ⟨fun i u hu => ?_, fun i a b ha hb => ?_, by simp at h3 ⊢; omega⟩
      · cases i with
        | zero =>
          obtain rfl : ⟨k, p, t, v⟩ = u := by simpa using hu
          refine ⟨Nat.le_refl _, by simp, fun hk => ?_⟩
          have ht := lexeme_word hx hk
          subst ht
          simp only [List.length_cons, List.length_take, Nat.sub_self, List.drop_zero]
          refine ⟨by omega, ?_⟩
          rw [Nat.min_eq_left hn, List.take_succ_cons]
        | succ i =>
          obtain ⟨g1, g2, g3⟩ := h1 i u (by simpa using hu)
          refine ⟨by omega, by simp; omega, fun hk => ?_⟩
          obtain ⟨g4, g5⟩ := g3 hk
          refine ⟨by simp; omega, ?_⟩
          rw [show u.pos - p = (n + (u.pos - (p + 1 + n))) + 1 by omega, List.drop_succ_cons, ← List.drop_drop]
          exact g5
      · cases i with
        | zero =>
          obtain rfl : ⟨k, p, t, v⟩ = a := by simpa using ha
          have := (h1 0 b (by simpa using hb)).1
          show p < b.pos
          omega
        | succ i => exact h2 i a b (by simpa using ha) (by simpa using hb)
  · rw [lexW_err hx] at h; cases h
/-- What is wrong lies within the text. -/
theorem lexW_error : ∀ (S : List UInt8) (p e q : Nat), lexW p S = .error (e, q) → p ≤ q ∧ q < p + S.length ∧ (e = 6 ∨ e = 7) := by
  refine lexW_induct _ (fun p e q h => ?_) (fun p c r n hx ih e q h => ?_) (fun p c r n k t v hx ih e q h => ?_) (fun p c r n e' hx e q h => ?_)
  · rw [lexW_nil] at h; cases h
  · rw [lexW_none hx] at h
    have hn : n ≤ r.length := by have := lexeme_le c r; rw [hx] at this; exact this
    have := ih e q h
    simp at this ⊢
    omega
  · rw [lexW_tok hx] at h
    have hn : n ≤ r.length := by have := lexeme_le c r; rw [hx] at this; exact this
    cases hy : lexW (p + 1 + n) (r.drop n) with
    | error x =>
      rw [hy] at h
      obtain rfl : x = (e, q) := by simpa [glue] using h
      have := ih e q hy
      simp at this ⊢
      omega
    | ok l' => rw [hy] at h; simp [glue] at h
  · rw [lexW_err hx] at h
    obtain ⟨rfl, rfl⟩ := Prod.mk.inj (Except.error.inj h)
    refine ⟨Nat.le_refl _, by simp, ?_⟩
    unfold lexeme at hx
    repeat' split at hx
    all_goals simp only [Prod.mk.injEq, Except.error.injEq, reduceCtorEq, false_and] at hx
    all_goals omega

theorem takeWhile_append_stop (q : UInt8 → Bool) (Y : List UInt8) (hY : ∀ y, Y.head? = some y → q y = false) : ∀ X : List UInt8, (∀ x ∈ X, q x = true) → (X ++ Y).takeWhile q = X
  | [], _ => by
    cases Y with
    | nil => rfl
    | cons y Y => simp [hY y rfl]
  | x :: X, h => by
    have hx := h x (by simp)
    rw [List.cons_append, List.takeWhile_cons, if_pos hx, takeWhile_append_stop q Y hY X fun z hz => h z (by simp [hz])]
theorem takeWhile_all (q : UInt8 → Bool) : ∀ (r : List UInt8), ∀ x ∈ r.takeWhile q, q x = true
  | [], x, hx => by simp at hx
  | c :: r, x, hx => by
    rw [List.takeWhile_cons] at hx
    split at hx
    · rename_i hc
      rcases List.mem_cons.1 hx with rfl | hx
      · exact hc
      · exact takeWhile_all q r x hx
    · simp at hx
theorem takeWhile_stop (q : UInt8 → Bool) : ∀ (r : List UInt8) (y : UInt8), (r.drop (r.takeWhile q).length).head? = some y → q y = false
  | [], y, h => by simp at h
  | c :: r, y, h => by
    rw [List.takeWhile_cons] at h
    split at h
    · exact takeWhile_stop q r y (by simpa using h)
    · rename_i hc
      obtain rfl : c = y := by simpa using h
      simpa using hc

theorem lexeme_none {c : UInt8} {r : List UInt8} {n : Nat} (h : lexeme c r = (Lx.none, n)) : (isBlank c = true ∧ n = 0) ∨ (c = 35 ∧ n = (r.takeWhile notEnd).length) := by
  unfold lexeme at h
  repeat' split at h
  all_goals simp only [Prod.mk.injEq, Except.ok.injEq, reduceCtorEq, false_and, true_and] at h
  · rename_i hc; exact .inl ⟨hc, h.symm⟩
  · rename_i hc; exact .inr ⟨by simpa using hc, h.symm⟩
theorem lexeme_blank {c : UInt8} (h : isBlank c = true) (r : List UInt8) : lexeme c r = (Lx.none, 0) := by unfold lexeme; rw [if_pos h]
theorem lexeme_hash (r : List UInt8) : lexeme 35 r = (Lx.none, (r.takeWhile notEnd).length) := by
  unfold lexeme
  rw [if_neg (by decide), if_neg (by decide), if_neg (by decide), if_neg (by decide), if_neg (by decide), if_neg (by decide), if_neg (by decide), if_pos (by decide)]
end Go.Proofs.YtfamnloobmdhdaaDoor
