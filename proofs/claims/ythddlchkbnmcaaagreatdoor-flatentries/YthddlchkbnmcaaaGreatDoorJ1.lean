import Derived.Test.YthddlchkbnmcaaaGreatDoorProg
import Derived.WalkKit
import Derived.WalkSpells
import Derived.WalkLawsBesides
import Derived.BigQuiet
import Derived.KernelRfl
import Derived.Laws.StructEq
import Derived.Laws.Tables
import Derived.Laws.Rows
import Derived.Great.BuildSlice
import Derived.Laws.AppendOwn
import Derived.Laws.OwnMore
import Derived.Maps.AppendAt
import Derived.Lib.Bytealg
import Derived.Lib.UnsafeStr
import Derived.Lib.BufferWrite
import Derived.Laws.MakeOwn
import Derived.StillTailTactics
namespace Go.Proofs.YthddlchkbnmcaaaGreatDoor
open Go Go.RowKit
set_option maxRecDepth 20000

theorem ret_bool {a b : Bool} (h : a = b) : Ending.returned (.bool a) = .returned (.bool b) := by rw [h]
theorem ret_int {k : IntKind} {a b : Int} (h : a = b) : Ending.returned (.int k a) = .returned (.int k b) := by rw [h]

def hv (L : List Int) : Array Value := (L.map (Value.int .u8)).toArray
def Byt (L : List Int) : Prop := L.length = 13 ∧ ∀ k, 0 ≤ L.getD k 0 ∧ L.getD k 0 < 256

theorem hv_size (L : List Int) : (hv L).size = L.length := by simp [hv]
theorem hv_at (L : List Int) (hL : L.length = 13) (k : Nat) (hk : k < 13) : (hv L)[k]? = some (.int .u8 (L.getD k 0)) := by
  unfold hv
  simp [List.getElem?_map, List.getElem?_eq_getElem (show k < L.length by omega), List.getD]
theorem hv_one (L : List Int) : (hv L).all (·.oneCell') = true := by
  simp [hv, Value.oneCell']
theorem part5 (L : List Int) (hL : L.length = 13) (k : Nat) (hk : k < 13) (w : World) : (part 5 (hv L) k).run Tryz.prog w = .ok (.int .u8 (L.getD k 0)) w := by
  have u5 := Tryz.underlying5
  have hx := hv_at L hL k hk
  have hz : ∀ w, (sizeOf 5).run Tryz.prog w = .ok 1 w := fun w => by kernel_rfl
  have ha : ∀ w, (isAgg 5).run Tryz.prog w = .ok false w := fun w => by kernel_rfl
  simp [part, ha, hx, Sem.run_bind]

theorem loopN (d : Nat) (L M : List Int) (hL : L.length = 13) (hM : M.length = 13) (w : World) (k : Option Bool × Unit → World → Result Bool) (k1 : k (some false, ()) w = .ok false w) (k2 : k (none, ()) w = .ok true w) : ∀ (is : List Nat), (∀ i ∈ is, i < 13) →
    ((forIn is ((none, ()) : Option Bool × Unit) fun i (_ : Option Bool × Unit) => (do
            if !(← Op.equalIn (d + 1) 5 (← part 5 (hv L) (i * 1)) (← part 5 (hv M) (i * 1))) then pure (ForInStep.done (some false, ())) else pure (ForInStep.yield (none, ())) : Sem (ForInStep (Option Bool × Unit)))).run Tryz.prog w).andThen k = .ok (is.all fun i => L.getD i 0 == M.getD i 0) w := by
  intro is
  induction is with
  | nil => intro _; simpa using k2
  | cons i is ih =>
    intro h
    have hi := h i (by simp)
    have ih' := ih (fun j hj => h j (by simp [hj]))
    have e : (Op.equalIn (d + 1) 5 (.int .u8 (L.getD i 0)) (.int .u8 (M.getD i 0))).run Tryz.prog w = .ok (L.getD i 0 == M.getD i 0) w := run_equalIn_int w d 5 .u8 .u8 _ _ Tryz.underlying5
    simp only [List.forIn_cons, Sem.run_bind, Nat.mul_one, part5 L hL i hi, part5 M hM i hi, Result.andThen_ok, e]
    by_cases hc : (L.getD i 0 == M.getD i 0) = true
    · simp only [hc, Bool.not_true, Bool.false_eq_true, if_false, Sem.run_pure, Result.andThen_ok, List.all_cons, Bool.true_and]
      simpa only [Sem.run_bind, Nat.mul_one] using ih'
    · have hc' : (L.getD i 0 == M.getD i 0) = false := by simpa using hc
      simp only [hc', Bool.not_false, if_true, Sem.run_pure, Result.andThen_ok, List.all_cons, Bool.false_and]
      exact k1

theorem all_eq (L M : List Int) (hL : L.length = 13) (hM : M.length = 13) : ((List.range' 0 13).all fun i => L.getD i 0 == M.getD i 0) = (L == M) := by
  rw [Bool.eq_iff_iff]
  simp only [List.all_eq_true, List.mem_range'_1, beq_iff_eq]
  constructor
  · intro h
    apply List.ext_getElem (by omega)
    intro k h1 h2
    have := h k ⟨by omega, by omega⟩
    simpa [List.getD, h1, h2] using this
  · rintro rfl k _; rfl

structure Later (W : World) where
  world : World
  below : Below W.heap.size W world

theorem Later.ne (W : World) : Nonempty (Later W) := ⟨⟨W, Below.refl _ _⟩⟩

theorem wp_region_later {P : Program} {id : Nat} {Q : Exit → Act → World → Prop} {a : Act} {w : World} {l : List Oper} (hm : P.follows .mixedOrders = true) (hB : Region.lexB .any l.toArray = true)
    (h : wpQuiet P l.toArray (fun w' => ∃ u : Later w, w' = u.world) (fun a' => ∀ w', (∃ u : Later w, w' = u.world) → Q .normal a' w') l a) : (Code.region id l.toArray true).wp P Q a w :=
  wp_region_quiet (C := fun w' => ∃ u : Later w, w' = u.world) hm hB ⟨⟨w.drew, (Below.refl _ _).drew⟩, rfl⟩ (by simpa using h)

theorem Calls.later_of {P : Program} {f : FuncId} {args : Array Value} {W : World} {u : Later W} {v : Value}
    (h : Calls P f args u.world fun e w' => e = .returned v ∧ Below u.world.heap.size u.world w') : Calls P f args u.world fun e w'' => e = .returned v ∧ ∃ u' : Later W, w'' = u'.world :=
  h.mono fun _ w1 ⟨he, hb⟩ => ⟨he, ⟨w1, u.below.trans (hb.mono u.below.size)⟩, rfl⟩

theorem q_load_row {P : Program} {ops : Array Oper} {C : World → Prop} {Q : Act → Prop} {rest : List Oper} {o : Oper} {a : Act} (hw : Region.wanted o (yielded ops a.tmps) = true) (ty : TypeId) (x : Operand) (ho : o.op = .load ty x)
    (g : Nat) (hx : a.eval x = .pointer (some ⟨g, 0, none⟩)) (t : TypeId) (cs : Array Value) (fr : Nat × Nat) (d : TypeDesc) (hg : ∀ w', C w' → w'.heap[g]? = some (.cells cs t fr))
    (hu : P.underlying ty = some d) (hd : (match d with | .struct _ | .array _ _ => true | _ => false) = true) (hi : (P.info? ty).map (·.size) = some cs.size)
    (h : wpQuiet P ops C Q rest (a.put o.dst (.agg cs))) : wpQuiet P ops C Q (o :: rest) a := by
  refine BigFrame.wpQuiet_want hw fun K hK => ⟨.agg cs, fun w hC => ?_, hK _ h⟩
  unfold Oper.quietAt execOp
  simp only [ho, hx, Instr.loadAt, Instr.sureAddr, Sem.run_bind, Sem.run_pure, Result.andThen_ok, run_loadVar_row w g t ty cs fr d (hg w hC) hu hd hi]
  exact ⟨rfl, rfl⟩

theorem later_block {W : World} {g : Nat} {o : Obj} (h : W.heap[g]? = some o) : ∀ w', (∃ u : Later W, w' = u.world) → w'.heap[g]? = some o := by
  rintro w' ⟨u, rfl⟩
  have hlt : g < W.heap.size := by
    rcases Array.getElem?_eq_some_iff.1 h with ⟨hl, _⟩
    exact hl
  rw [u.below.block g hlt, h]

theorem size26 (L : List Int) (hL : L.length = 13) : (Tryz.prog.info? 31).map (·.size) = some (hv L).size := by
  rw [hv_size, hL]; kernel_rfl

/-- A whole header is read out of its block. -/
theorem wl_load26 {ops : Array Oper} {rest : List Oper} {o : Oper} {a : Act} {w : World} {Q : Exit → Act → World → Prop} (hgd : o.guard = none) (x : Operand) (ho : o.op = .load 31 x)
    (g : Nat) (hx : a.eval x = .pointer (some ⟨g, 0, none⟩)) (L : List Int) (hg : w.heap[g]? = some (.cells (hv L) 31 (0, 0))) (hL : L.length = 13)
    (h : wpList Tryz.prog ops Q rest (a.put o.dst (.agg (hv L))) w) : wpList Tryz.prog ops Q (o :: rest) a w :=
  wpList_load_row hgd 31 x ho g hx 31 (hv L) (0, 0) _ hg Tryz.underlying31 rfl (size26 L hL) h

/-- A whole header is stored into a block that holds one. -/
theorem wl_store26 {ops : Array Oper} {rest : List Oper} {o : Oper} {a : Act} {w : World} {Q : Exit → Act → World → Prop} (hgd : o.guard = none) (x y : Operand) (ho : o.op = .store 31 x y)
    (g : Nat) (L : List Int) (hx : a.eval x = .pointer (some ⟨g, 0, none⟩)) (hy : a.eval y = .agg (hv L)) (old : Array Value) (hg : w.heap[g]? = some (.cells old 31 (0, 0))) (hold : old.size = 13) (hL : L.length = 13)
    (w' : World) (hw' : w.setRow g (hv L) = w')
    (h : wpList Tryz.prog ops Q rest (a.put o.dst undef) w') : wpList Tryz.prog ops Q (o :: rest) a w :=
  wpList_store_row hgd 31 x y ho g (hv L) hx hy 31 old hg (size26 L hL) (by rw [hv_size, hold, hL]) (hv_one L) (by rw [hw']; exact h)

theorem setRow_new (w : World) (old cs : Array Value) (t : TypeId) (g : Nat) (hg : g = w.heap.size) : (w.alloc (.cells old t)).setRow g cs = w.alloc (.cells cs t) := by
  subst hg
  simp only [World.setRow, World.alloc]
  congr 1
  apply Array.ext
  · simp
  · intro k h1 h2
    simp only [Array.getElem_modify, Array.getElem_push]
    by_cases hk : k < w.heap.size
    · simp [hk, show ¬ w.heap.size = k by omega]
    · have : w.heap.size = k := by simp at h2; omega
      simp [this]

theorem setRow_drew (w : World) (g : Nat) (cs : Array Value) : w.drew.setRow g cs = (w.setRow g cs).drew := rfl
theorem below_setRow {B : Nat} {a w : World} (h : Below B a w) {g : Nat} (hg : B ≤ g) (cs : Array Value) : Below B a (w.setRow g cs) :=
  ⟨h.os, h.tape, h.output, by simpa using h.size, fun k hk => (setRow_other w g k cs (by omega)).trans (h.block k hk)⟩

/-- The end of a function whose one result is a header in memory. -/
theorem ret26 {fn : Func} {R : Ending → World → Prop} {a : Act} {w : World} {p : Tmp} (hr : fn.results = #[.cell p 31]) (hd : a.defers = []) (g : Nat) (hp : a.tmps.getD p undef = .pointer (some ⟨g, 0, none⟩)) (L : List Int) (hL : L.length = 13)
    (hg : w.heap[g]? = some (.cells (hv L) 31 (0, 0))) (h : R (.returned (.agg (hv L))) w) : bodyPost Tryz.prog fn R .ret a w :=
  bodyPost_ret (v := .agg (hv L)) (results_cell_row hr _ _ g 31 (hv L) (0, 0) _ hp hg Tryz.underlying31 rfl (size26 L hL)) hd h

theorem heap_new (w : World) (o : Obj) (g : Nat) (hg : g = w.heap.size) : (w.alloc o).heap[g]? = some o := by rw [hg]; exact heap_alloc_new w o
theorem heap_past (w : World) (o x : Obj) (g : Nat) (h : w.heap[g]? = some x) : (w.alloc o).heap[g]? = some x := by
  rw [Below.heap_alloc w o g (Array.getElem?_eq_some_iff.1 h).1]; exact h

end Go.Proofs.YthddlchkbnmcaaaGreatDoor
namespace Go.Proofs.YthddlchkbnmcaaaGreatDoor
open Go Go.RowKit
set_option maxRecDepth 20000

/-- A type of elements that are structs or arrays, and the type of its slices. -/
structure El where
  elem : TypeId
  slice : TypeId
  size : Nat
  bytes : Nat
  zero : Array Value
/-- What the program says of it. -/
structure El.Ok (E : El) : Prop where
  hs : Tryz.prog.underlying E.slice = some (.slice E.elem)
  hu : ∃ d, Tryz.prog.underlying E.elem = some d ∧ (match d with | .struct _ | .array _ _ => true | _ => false) = true
  hi : (Tryz.prog.info? E.elem).map (fun i => (i.zero, i.size, i.bytes)) = some (some (.agg E.zero), E.size, E.bytes)
  hz : E.zero.size = E.size
  hp : 0 < E.size
  hb : E.bytes ≤ 100000
  hn : E.size ≤ 100000
theorem El.Ok.info {E : El} (H : E.Ok) : ∃ i, Tryz.prog.info? E.elem = some i ∧ i.zero = some (.agg E.zero) ∧ i.size = E.size ∧ i.bytes = E.bytes := by
  have h1 := H.hi
  cases h : Tryz.prog.info? E.elem with
  | none => rw [h] at h1; simp at h1
  | some i =>
    rw [h] at h1
    simp only [Option.map_some, Option.some.injEq, Prod.mk.injEq] at h1
    exact ⟨i, rfl, h1.1, h1.2.1, h1.2.2⟩
theorem El.Ok.cellsz {E : El} (H : E.Ok) (cs : Array Value) (hc : cs.size = E.size) : (Tryz.prog.info? E.elem).map (·.size) = some cs.size := by
  obtain ⟨i, h1, _, h2, _⟩ := H.info
  rw [h1, Option.map_some, h2, hc]

/-- A value that is laid in cells, one each. -/
def Fits (E : El) (cs : Array Value) : Prop := cs.size = E.size ∧ cs.all (·.oneCell') = true

/-- An element that lies within a block, from a place on. -/
theorem El.Ok.load {E : El} (H : E.Ok) (w : World) (g off : Nat) (cur : Array Value) (t : TypeId) (fr : Nat × Nat) (cs : Array Value) (hcs : cs.size = E.size) (hg : w.heap[g]? = some (.cells cur t fr)) (hc : ∀ j, j < E.size → cur[off + j]? = cs[j]?) :
    (loadVar E.elem ⟨g, off, none⟩).run Tryz.prog w = .ok (.agg cs) w := by
  have hl : (loadCells ⟨g, off, none⟩ cs.toList.length).run Tryz.prog w = .ok cs.toList.toArray w :=
    run_loadCells_list (P := Tryz.prog) w ⟨g, off, none⟩ cs.toList (fun j v hv => by
      have hadd : (⟨g, off, none⟩ : Addr).add j = ⟨g, off + j, none⟩ := by unfold Addr.add; split <;> simp_all
      have hj : j < E.size := by
        have := (List.getElem?_eq_some_iff.1 hv).1
        rw [Array.length_toList] at this
        omega
      rw [hadd, cell_of_row w g (off + j) cur t fr hg, hc j hj]
      simpa using hv)
  obtain ⟨i, hq, _, hs, _⟩ := H.info
  have hagg : (isAgg E.elem).run Tryz.prog w = .ok true w := by
    obtain ⟨d, hd, hm⟩ := H.hu
    unfold isAgg
    rw [Sem.run_bind, run_underlying hd w]
    revert hm
    cases d <;> simp [go_sem]
  rw [Array.length_toList, hcs, Array.toArray_toList] at hl
  simp [loadVar, Sem.run_bind, hagg, sizeOf, typeInfo, hq, hs, hl]
theorem wl_loadE {E : El} (H : E.Ok) {ops : Array Oper} {rest : List Oper} {o : Oper} {a : Act} {w : World} {Q : Exit → Act → World → Prop} (hw : Region.wanted o (yielded ops a.tmps) = true) (x : Operand) (ho : o.op = .load E.elem x)
    (g off : Nat) (hx : a.eval x = .pointer (some ⟨g, off, none⟩)) (cur : Array Value) (t : TypeId) (fr : Nat × Nat) (cs : Array Value) (hcs : cs.size = E.size) (hg : w.heap[g]? = some (.cells cur t fr)) (hc : ∀ j, j < E.size → cur[off + j]? = cs[j]?)
    (h : wpList Tryz.prog ops Q rest (a.put o.dst (.agg cs)) w) : wpList Tryz.prog ops Q (o :: rest) a w := by
  refine wpList_step fun K hK => ?_
  rw [if_pos hw]
  unfold Oper.wp execOp
  simp only [ho, hx, Instr.loadAt, Instr.sureAddr, Sem.run_bind, Sem.run_pure, Result.andThen_ok, H.load w g off cur t fr cs hcs hg hc]
  exact hK _ _ h
theorem own_cells (n : Nat) (cs : Array Value) : ∀ j, j < n → cs[0 + j]? = cs[j]? := fun j _ => by rw [Nat.zero_add]
theorem wl_storeE {E : El} (H : E.Ok) {ops : Array Oper} {rest : List Oper} {o : Oper} {a : Act} {w : World} {Q : Exit → Act → World → Prop} (hgd : o.guard = none) (x y : Operand) (ho : o.op = .store E.elem x y)
    (g : Nat) (cs : Array Value) (hf : Fits E cs) (hx : a.eval x = .pointer (some ⟨g, 0, none⟩)) (hy : a.eval y = .agg cs) (old : Array Value) (hg : w.heap[g]? = some (.cells old E.elem (0, 0))) (hold : old.size = E.size)
    (w' : World) (hw' : w.setRow g cs = w')
    (h : wpList Tryz.prog ops Q rest (a.put o.dst undef) w') : wpList Tryz.prog ops Q (o :: rest) a w :=
  wpList_store_row hgd E.elem x y ho g cs hx hy E.elem old hg (H.cellsz cs hf.1) (by rw [hf.1, hold]) hf.2 (by rw [hw']; exact h)
theorem qlE {E : El} (H : E.Ok) {C : World → Prop} {ops : Array Oper} {Q : Act → Prop} {rest : List Oper} {o : Oper} {a : Act} (hw : Region.wanted o (yielded ops a.tmps) = true) (x : Operand) (ho : o.op = .load E.elem x)
    (g off : Nat) (hx : a.eval x = .pointer (some ⟨g, off, none⟩)) (cur : Array Value) (t : TypeId) (fr : Nat × Nat) (cs : Array Value) (hcs : cs.size = E.size) (hg : ∀ w', C w' → w'.heap[g]? = some (.cells cur t fr)) (hc : ∀ j, j < E.size → cur[off + j]? = cs[j]?)
    (h : wpQuiet Tryz.prog ops C Q rest (a.put o.dst (.agg cs))) : wpQuiet Tryz.prog ops C Q (o :: rest) a := by
  refine BigFrame.wpQuiet_want hw fun K hK => ⟨.agg cs, fun w hC => ?_, hK _ h⟩
  unfold Oper.quietAt execOp
  simp only [ho, hx, Instr.loadAt, Instr.sureAddr, Sem.run_bind, Sem.run_pure, Result.andThen_ok, H.load w g off cur t fr cs hcs (hg w hC) hc]
  exact ⟨rfl, rfl⟩

/-- The cells of a list of elements. -/
def gcells {α : Type} (enc : α → Array Value) (C : List α) : List Value := C.flatMap fun c => (enc c).toList
theorem gcells_append {α : Type} (enc : α → Array Value) (C D : List α) : gcells enc (C ++ D) = gcells enc C ++ gcells enc D := by simp [gcells]
theorem gcells_one {α : Type} (enc : α → Array Value) (c : α) : gcells enc [c] = (enc c).toList := by simp [gcells]
theorem gcells_cons {α : Type} (enc : α → Array Value) (c : α) (C : List α) : gcells enc (c :: C) = (enc c).toList ++ gcells enc C := by simp [gcells]
theorem gcells_at {α : Type} (enc : α → Array Value) (n : Nat) : ∀ (C : List α), (∀ c ∈ C, (enc c).size = n) → ∀ (i : Nat) (hi : i < C.length) (j : Nat), j < n → (gcells enc C)[n * i + j]? = (enc C[i])[j]?
  | [], _, i, hi, _, _ => absurd hi (by simp)
  | c :: C, h, 0, _, j, hj => by
    have h1 := h c (by simp)
    rw [gcells_cons, Nat.mul_zero, Nat.zero_add, List.getElem?_append_left (by rw [Array.length_toList, h1]; exact hj)]
    simp
  | c :: C, h, i + 1, hi, j, hj => by
    have h1 := h c (by simp)
    have ih := gcells_at enc n C (fun d hd => h d (by simp [hd])) i (by simpa using hi) j hj
    rw [gcells_cons, show n * (i + 1) + j = n + (n * i + j) by rw [Nat.mul_add, Nat.mul_one]; omega, List.getElem?_append_right (by rw [Array.length_toList, h1]; omega), Array.length_toList, h1, Nat.add_sub_cancel_left]
    simpa using ih

theorem gfold_get (off : Nat) : ∀ (xs : List Value) (n : Nat) (cells : Array Value) (k : Nat), off + n + xs.length ≤ cells.size →
    ((xs.zipIdx n).foldl (fun cs (x : Value × Nat) => cs.setIfInBounds (off + x.2) x.1) cells)[k]? = if off + n ≤ k ∧ k < off + n + xs.length then xs[k - (off + n)]? else cells[k]?
  | [], n, cells, k, _ => by
    simp only [List.zipIdx_nil, List.foldl_nil, List.length_nil, Nat.add_zero]
    rw [if_neg (by omega)]
  | x :: xs, n, cells, k, h => by
    simp only [List.length_cons] at h
    rw [List.zipIdx_cons, List.foldl_cons, gfold_get off xs (n + 1) _ k (by simp; omega)]
    simp only [List.length_cons]
    by_cases h1 : off + (n + 1) ≤ k ∧ k < off + (n + 1) + xs.length
    · rw [if_pos h1, if_pos (by omega), show k - (off + n) = (k - (off + (n + 1))) + 1 by omega, List.getElem?_cons_succ]
    · rw [if_neg h1]
      by_cases h2 : k = off + n
      · subst h2
        rw [if_pos (by omega), Nat.sub_self, List.getElem?_cons_zero, Array.getElem?_setIfInBounds_self_of_lt (by omega)]
      · rw [if_neg (by omega), Array.getElem?_setIfInBounds_ne (by omega)]
theorem gfold_all (xs cells : Array Value) (h : xs.size = cells.size) : xs.zipIdx.foldl (fun cs (x : Value × Nat) => cs.setIfInBounds (0 + x.2) x.1) cells = xs := by
  have e : xs.zipIdx.foldl (fun cs (x : Value × Nat) => cs.setIfInBounds (0 + x.2) x.1) cells = (xs.toList.zipIdx 0).foldl (fun cs (x : Value × Nat) => cs.setIfInBounds (0 + x.2) x.1) cells := by
    rw [← Array.foldl_toList]; simp
  rw [e]
  apply Array.ext_getElem?
  intro k
  rw [gfold_get 0 xs.toList 0 cells k (by simp; omega)]
  by_cases hk : k < xs.size
  · rw [if_pos (by simp; omega)]; simp
  · rw [if_neg (by simp; omega), Array.getElem?_eq_none (by omega), Array.getElem?_eq_none (by omega)]

set_option maxRecDepth 20000 in
/-- A slice of one element. -/
theorem wl_buildE {E : El} (H : E.Ok) {ops : Array Oper} {rest : List Oper} {o : Oper} {a : Act} {w : World} {Q : Exit → Act → World → Prop} (hg : o.guard = none) (x : Operand) (ho : o.op = .buildSlice E.slice 1 #[(0, x)]) (cs : Array Value) (hcs : cs.size = E.size) (hx : a.eval x = .agg cs)
    (h : wpList Tryz.prog ops Q rest (a.put o.dst (.slice (some ⟨w.heap.size, 0, none⟩) 1 1)) (w.alloc (.cells cs E.elem))) : wpList Tryz.prog ops Q (o :: rest) a w := by
  obtain ⟨ie, hie, hz, hs, _⟩ := H.info
  refine wpList_buildSlice hg E.slice E.elem 1 _ ho cs ie (.agg E.zero) H.hs hie hz (by rw [hs]; have := H.hn; omega) (by rw [hs]; have := H.hp; omega) ?_ h
  simp only [List.map_toArray, List.map_cons, List.map_nil, hx, Instr.fill, hs, Nat.zero_mul, Value.cells, hcs]
  rw [if_neg (by simp)]
  congr 1
  exact gfold_all _ _ (by rw [hcs]; simp)

/-- One element appended to one's own row of them, and where the new row lies. -/
theorem wl_appendE {E : El} (H : E.Ok) {α : Type} (enc : α → Array Value) {ops : Array Oper} {rest : List Oper} {o : Oper} {a : Act} {w : World} {Q : Exit → Act → World → Prop} (hgd : o.guard = none) (s x : Operand) (ho : o.op = .call { callee := .builtin .append, args := #[s, x], argTypes := #[E.slice, E.slice] })
    (base : Nat) (v : Value) (C : List α) (c : α) (hf : Fits E (enc c)) (hs : a.eval s = v) (hown : w.ownsRow base E.elem E.size v C.length (gcells enc C)) (g cap : Nat) (hx : a.eval x = .slice (some ⟨g, 0, none⟩) 1 cap) (hg : w.heap[g]? = some (.cells (enc c) E.elem (0, 0)))
    (hn : C.length ≤ 1000000) (hbase : base ≤ w.heap.size)
    (h : ∀ v' w', w'.ownsRow base E.elem E.size v' (C ++ [c]).length (gcells enc (C ++ [c])) → w.grownBy w' v.ownBlock → (v'.ownBlock = v.ownBlock ∨ v'.ownBlock = some w.heap.size) → wpList Tryz.prog ops Q rest (a.put o.dst v') w') : wpList Tryz.prog ops Q (o :: rest) a w := by
  obtain ⟨i0, hi, hz0, hz1, hz2⟩ := H.info
  have hb := H.hb
  refine wpList_append_own_at _ hgd s x E.slice ho base E.elem i0 (.agg E.zero) E.size E.bytes H.hs hi hz0 hz1 hz2 (by simpa [Value.cells] using H.hz) H.hp v _ _ hs hown ⟨g, 0, none⟩ 1 cap (enc c).toList hx (by rw [Array.length_toList, hf.1, Nat.one_mul]) (fun j y hy => ?_) (fun u hu => ?_) (by unfold maxLen; omega) ?_ hbase ?_
  · have hadd : (⟨g, 0, none⟩ : Addr).add j = ⟨g, j, none⟩ := by unfold Addr.add; split <;> simp_all
    rw [hadd, cell_of_row w g j _ _ _ hg, ← hy]
    simp
  · exact (Array.all_eq_true_iff_forall_mem.1 hf.2) u (by simpa using hu)
  · exact Nat.le_trans (Nat.mul_le_mul (show C.length + 1 ≤ 1000001 by omega) hb) (by decide)
  · intro v' w' h5 h6 _ h7
    refine h v' w' ?_ h6 h7
    rw [List.length_append, gcells_append, gcells_one]; exact h5

/-- A slice, wherever it lies, whose elements are these. -/
def GSl {α : Type} (E : El) (enc : α → Array Value) (w : World) (v : Value) (C : List α) : Prop :=
  ∃ (o : Option Addr) (cap : Nat), v = .slice o C.length cap ∧ C.length ≤ cap ∧ cap ≤ maxLen ∧ ∀ (i : Nat) (hi : i < C.length), ∃ g off cur t fr, o = some ⟨g, off, none⟩ ∧ w.heap[g]? = some (.cells cur t fr) ∧ ∀ j, j < E.size → cur[off + i * E.size + j]? = (enc C[i])[j]?
theorem GSl.below {α : Type} {E : El} {enc : α → Array Value} {w w' : World} {v : Value} {C : List α} (h : GSl E enc w v C) (hb : Below w.heap.size w w') : GSl E enc w' v C := by
  obtain ⟨o, cap, rfl, h1, h2, h3⟩ := h
  refine ⟨o, cap, rfl, h1, h2, fun i hi => ?_⟩
  obtain ⟨g, off, cur, t, fr, h4, h5, h6⟩ := h3 i hi
  exact ⟨g, off, cur, t, fr, h4, (hb.block g (Array.getElem?_eq_some_iff.1 h5).1).trans h5, h6⟩
theorem GSl.slice {α : Type} {E : El} {enc : α → Array Value} {w : World} {v : Value} {C : List α} (h : GSl E enc w v C) : ∃ (o : Option Addr) (cap : Nat), v = .slice o C.length cap ∧ C.length ≤ cap ∧ cap ≤ maxLen := by
  obtain ⟨o, cap, h1, h2, h3, _⟩ := h
  exact ⟨o, cap, h1, h2, h3⟩
theorem GSl.at {α : Type} {E : El} {enc : α → Array Value} {w : World} {o : Option Addr} {n cap : Nat} {C : List α} (h : GSl E enc w (.slice o n cap) C) (k : Nat) (hk : k < n) :
    ∃ g off cur t fr, ∃ c : α, o = some ⟨g, off, none⟩ ∧ w.heap[g]? = some (.cells cur t fr) ∧ (∀ j, j < E.size → cur[off + k * E.size + j]? = (enc c)[j]?) ∧ C[k]? = some c := by
  obtain ⟨o', cap', h1, _, _, h3⟩ := h
  simp only [Value.slice.injEq] at h1
  obtain ⟨rfl, rfl, rfl⟩ := h1
  obtain ⟨g, off, cur, t, fr, h4, h5, h6⟩ := h3 k hk
  exact ⟨g, off, cur, t, fr, C[k], h4, h5, h6, List.getElem?_eq_getElem hk⟩
theorem gsl_of {α : Type} {E : El} {enc : α → Array Value} {w : World} {B : Nat} {v : Value} {C : List α} (h : w.ownsRow B E.elem E.size v C.length (gcells enc C)) (hC : ∀ c ∈ C, (enc c).size = E.size) : GSl E enc w v C := by
  obtain ⟨h1, ⟨rfl, h2⟩ | ⟨g, cap, cur, rfl, hB, hcur, h5, h6, _, h4⟩⟩ := h
  · exact ⟨none, 0, by rw [h2], by omega, Nat.zero_le _, fun i hi => by omega⟩
  · refine ⟨_, cap, rfl, h5, h6, fun i hi => ⟨g, 0, cur, _, _, rfl, hcur, fun j hj => ?_⟩⟩
    have hlt : E.size * i + j < C.length * E.size := by
      have : E.size * (i + 1) ≤ E.size * C.length := Nat.mul_le_mul_left _ hi
      rw [Nat.mul_add, Nat.mul_one] at this
      rw [Nat.mul_comm C.length]
      omega
    rw [← gcells_at enc E.size C hC i hi j hj, ← h4, List.getElem?_take_of_lt hlt, Nat.zero_add, Nat.mul_comm]
    simp
theorem gsl_nil {α : Type} (E : El) (enc : α → Array Value) (w : World) : GSl E enc w (.slice none 0 0) [] := ⟨none, 0, rfl, Nat.le_refl _, Nat.zero_le _, fun i hi => absurd hi (by simp)⟩
theorem gown_slice {w : World} {B : Nat} {e : TypeId} {s : Nat} {v : Value} {n : Nat} {xs : List Value} (h : w.ownsRow B e s v n xs) : ∃ o cap, v = .slice o n cap := by
  obtain ⟨_, ⟨rfl, rfl⟩ | ⟨g, cap, cur, rfl, _⟩⟩ := h
  · exact ⟨none, 0, rfl⟩
  · exact ⟨_, cap, rfl⟩
theorem gown_below {w w' : World} {B : Nat} {e : TypeId} {s : Nat} {v : Value} {n : Nat} {xs : List Value} (h : w.ownsRow B e s v n xs) (hb : Below w.heap.size w w') : w'.ownsRow B e s v n xs := by
  obtain ⟨h1, h2 | ⟨g, cap, cur, rfl, hB, hcur, h3⟩⟩ := h
  · exact ⟨h1, .inl h2⟩
  · exact ⟨h1, .inr ⟨g, cap, cur, rfl, hB, (hb.block g (Array.getElem?_eq_some_iff.1 hcur).1).trans hcur, h3⟩⟩
theorem gown_ne {w : World} {B : Nat} {e : TypeId} {s : Nat} {v : Value} {n : Nat} {xs : List Value} (h : w.ownsRow B e s v n xs) {g : Nat} (hg : w.heap.size ≤ g) : v.ownBlock ≠ some g := fun hq => by
  have := (h.lt g hq).2
  omega
theorem gown_base {w : World} {B B' : Nat} {e : TypeId} {s : Nat} {v : Value} {n : Nat} {xs : List Value} (h : w.ownsRow B e s v n xs) (hB' : B' ≤ B) : w.ownsRow B' e s v n xs := by
  obtain ⟨h1, h2 | ⟨g', cap, cur, rfl, hB, h3⟩⟩ := h
  · exact ⟨h1, .inl h2⟩
  · exact ⟨h1, .inr ⟨g', cap, cur, rfl, by omega, h3⟩⟩
end Go.Proofs.YthddlchkbnmcaaaGreatDoor
namespace Go.Proofs.YthddlchkbnmcaaaGreatDoor
open Go
set_option maxRecDepth 20000

/-- A token. -/
structure Tok where
  kind : Nat
  pos : Nat
  text : List UInt8
  num : Nat

def isLet (c : UInt8) : Bool := decide (97 ≤ c.toNat) && decide (c.toNat ≤ 122)
def isDig (c : UInt8) : Bool := decide (48 ≤ c.toNat) && decide (c.toNat ≤ 57)
def isBlank (c : UInt8) : Bool := c == 9 || c == 13 || c == 32
def notEnd (c : UInt8) : Bool := c != 10
/-- Digits as a number. -/
def val (D : List UInt8) : Nat := D.foldl (fun n c => n * 10 + (c.toNat - 48)) 0
/-- Digits as a number that may be. -/
def numOf (D : List UInt8) : Option Nat := if decide (4294967295 < val D) || (decide (1 < D.length) && D.head? == some 48) then none else some (val D)

/-- What begins at a place: nothing, a token, or something wrong. -/
abbrev Lx := Except Nat (Option (Nat × List UInt8 × Nat))
abbrev Lx.none : Lx := Except.ok Option.none
abbrev Lx.tok (k : Nat) (t : List UInt8) (v : Nat) : Lx := Except.ok (some (k, t, v))
abbrev Lx.err (e : Nat) : Lx := Except.error e

/-- What begins with a byte, and how many more bytes it has. -/
def lexeme (c : UInt8) (r : List UInt8) : Lx × Nat :=
  if isBlank c then (Lx.none, 0)
  else if isLet c then (Lx.tok 1 (c :: r.takeWhile isLet) 0, (r.takeWhile isLet).length)
  else if isDig c then (match numOf (c :: r.takeWhile isDig) with | some n => Lx.tok 2 [] n | Option.none => Lx.err 7, (r.takeWhile isDig).length)
  else if c == 46 then (Lx.tok 3 [] 0, 0)
  else if c == 47 then (Lx.tok 4 [] 0, 0)
  else if c == 45 then (if r.head? == some 62 then (Lx.tok 6 [] 0, 1) else (Lx.tok 5 [] 0, 0))
  else if c == 10 then (Lx.tok 7 [] 0, 0)
  else if c == 35 then (Lx.none, (r.takeWhile notEnd).length)
  else (Lx.err 6, 0)

/-- Tokens ahead of what comes to be. -/
def glue (P : List Tok) : Except (Nat × Nat) (List Tok) → Except (Nat × Nat) (List Tok)
  | .ok l => .ok (P ++ l)
  | .error x => .error x
theorem glue_glue (P Q : List Tok) (x : Except (Nat × Nat) (List Tok)) : glue P (glue Q x) = glue (P ++ Q) x := by
  cases x <;> simp [glue]
theorem glue_nil (x : Except (Nat × Nat) (List Tok)) : glue [] x = x := by cases x <;> rfl

/-- The tokens of a text that begins at a place, so many steps at most. -/
def lexF : Nat → Nat → List UInt8 → Except (Nat × Nat) (List Tok)
  | 0, _, _ => .ok []
  | _ + 1, _, [] => .ok []
  | f + 1, p, c :: r => match lexeme c r with
    | (.ok Option.none, n) => lexF f (p + 1 + n) (r.drop n)
    | (.ok (some (k, t, v)), n) => glue [⟨k, p, t, v⟩] (lexF f (p + 1 + n) (r.drop n))
    | (.error e, _) => .error (e, p)
/-- The tokens of a text that begins at a place. -/
def lexW (p : Nat) (S : List UInt8) : Except (Nat × Nat) (List Tok) := lexF S.length p S
theorem lexF_more : ∀ (f g p : Nat) (S : List UInt8), S.length ≤ f → S.length ≤ g → lexF f p S = lexF g p S
  | 0, 0, _, _, _, _ => rfl
  | 0, g + 1, p, S, hf, _ => by
    obtain rfl : S = [] := List.eq_nil_of_length_eq_zero (by omega)
    rfl
  | f + 1, 0, p, S, _, hg => by
    obtain rfl : S = [] := List.eq_nil_of_length_eq_zero (by omega)
    rfl
  | f + 1, g + 1, p, [], _, _ => rfl
  | f + 1, g + 1, p, c :: r, hf, hg => by
    have hl : ∀ n, (r.drop n).length ≤ f ∧ (r.drop n).length ≤ g := fun n => by simp at hf hg ⊢; omega
    have ih : ∀ q n, lexF f q (r.drop n) = lexF g q (r.drop n) := fun q n => lexF_more f g q (r.drop n) (hl n).1 (hl n).2
    simp only [lexF, ih]

theorem lexW_nil (p : Nat) : lexW p [] = .ok [] := rfl
theorem lexW_none {p : Nat} {c : UInt8} {r : List UInt8} {n : Nat} (h : lexeme c r = (Lx.none, n)) : lexW p (c :: r) = lexW (p + 1 + n) (r.drop n) := by
  unfold lexW
  rw [List.length_cons, lexF, h]
  exact lexF_more _ _ _ _ (by simp) (Nat.le_refl _)
theorem lexW_tok {p : Nat} {c : UInt8} {r : List UInt8} {n k v : Nat} {t : List UInt8} (h : lexeme c r = (Lx.tok k t v, n)) : lexW p (c :: r) = glue [⟨k, p, t, v⟩] (lexW (p + 1 + n) (r.drop n)) := by
  unfold lexW
  rw [List.length_cons, lexF, h]
  exact congrArg (glue _) (lexF_more _ _ _ _ (by simp) (Nat.le_refl _))
theorem lexW_err {p : Nat} {c : UInt8} {r : List UInt8} {n e : Nat} (h : lexeme c r = (Lx.err e, n)) : lexW p (c :: r) = .error (e, p) := by
  unfold lexW
  rw [List.length_cons, lexF, h]

/-- An induction along the text. -/
theorem lexW_induct (Q : Nat → List UInt8 → Prop) (h0 : ∀ p, Q p []) (h1 : ∀ p c r n, lexeme c r = (Lx.none, n) → Q (p + 1 + n) (r.drop n) → Q p (c :: r))
    (h2 : ∀ p c r n k t v, lexeme c r = (Lx.tok k t v, n) → Q (p + 1 + n) (r.drop n) → Q p (c :: r)) (h3 : ∀ p c r n e, lexeme c r = (Lx.err e, n) → Q p (c :: r)) : ∀ S p, Q p S := by
  have key : ∀ d (S : List UInt8) p, S.length ≤ d → Q p S := by
    intro d
    induction d with
    | zero => intro S p hS; obtain rfl : S = [] := List.eq_nil_of_length_eq_zero (by omega); exact h0 p
    | succ d ih =>
      intro S p hS
      cases S with
      | nil => exact h0 p
      | cons c r =>
        have hl : ∀ n, (r.drop n).length ≤ d := fun n => by simp at hS ⊢; omega
        rcases hx : lexeme c r with ⟨x, n⟩
        rcases x with e | _ | ⟨k, t, v⟩
        · exact h3 p c r n e hx
        · exact h1 p c r n hx (ih _ _ (hl n))
        · exact h2 p c r n k t v hx (ih _ _ (hl n))
  exact fun S p => key _ S p (Nat.le_refl _)

theorem takeWhile_le (q : UInt8 → Bool) (r : List UInt8) : (r.takeWhile q).length ≤ r.length := (List.takeWhile_prefix q).length_le
theorem takeWhile_take (q : UInt8 → Bool) : ∀ r : List UInt8, r.take (r.takeWhile q).length = r.takeWhile q
  | [] => rfl
  | c :: r => by
    rw [List.takeWhile_cons]
    cases h : q c
    · simp
    · simp [takeWhile_take q r]
/-- No lexeme has more bytes than there are. -/
theorem lexeme_le (c : UInt8) (r : List UInt8) : (lexeme c r).2 ≤ r.length := by
  unfold lexeme
  have h1 := takeWhile_le isLet r
  have h2 := takeWhile_le isDig r
  have h3 := takeWhile_le notEnd r
  repeat' split
  all_goals first | exact Nat.zero_le _ | exact h1 | exact h2 | exact h3 | skip
  rename_i h
  cases r with
  | nil => simp at h
  | cons d r => simp
theorem lexeme_word {c : UInt8} {r : List UInt8} {n k v : Nat} {t : List UInt8} (h : lexeme c r = (Lx.tok k t v, n)) (hk : k = 1) : t = c :: r.take n := by
  unfold lexeme at h
  repeat' split at h
  all_goals simp only [Prod.mk.injEq, Except.ok.injEq, Option.some.injEq, reduceCtorEq, false_and] at h
  · obtain ⟨⟨_, rfl, _⟩, rfl⟩ := h
    rw [takeWhile_take]
  all_goals try omega
  all_goals
    split at h
    · simp only [Except.ok.injEq, Option.some.injEq, Prod.mk.injEq] at h; omega
    · simp at h

/-- Tokens lie within the text, and rise; a word stands where it is told to. -/
theorem lexW_places : ∀ (S : List UInt8) (p : Nat) (l : List Tok), lexW p S = .ok l →
    (∀ (i : Nat) (t : Tok), l[i]? = some t → p ≤ t.pos ∧ t.pos < p + S.length ∧ (t.kind = 1 → t.pos + t.text.length ≤ p + S.length ∧ (S.drop (t.pos - p)).take t.text.length = t.text)) ∧
    (∀ (i : Nat) (a b : Tok), l[i]? = some a → l[i + 1]? = some b → a.pos < b.pos) ∧ l.length ≤ S.length := by
  refine lexW_induct _ (fun p l h => ?_) (fun p c r n hx ih l h => ?_) (fun p c r n k t v hx ih l h => ?_) (fun p c r n e hx l h => ?_)
  · rw [lexW_nil] at h
    obtain rfl : [] = l := Except.ok.inj h
    refine ⟨fun i t ht => by simp at ht, fun i a b ha => by simp at ha, Nat.zero_le _⟩
  · rw [lexW_none hx] at h
    have hn : n ≤ r.length := by have := lexeme_le c r; rw [hx] at this; exact this
    have hl : (r.drop n).length = r.length - n := List.length_drop
    obtain ⟨h1, h2, h3⟩ := ih l h
    refine ⟨fun i t ht => ?_, h2, by simp at h3 ⊢; omega⟩
    obtain ⟨g1, g2, g3⟩ := h1 i t ht
    refine ⟨by omega, by simp; omega, fun hk => ?_⟩
    obtain ⟨g4, g5⟩ := g3 hk
    refine ⟨by simp; omega, ?_⟩
    rw [show t.pos - p = (n + (t.pos - (p + 1 + n))) + 1 by omega, List.drop_succ_cons, ← List.drop_drop]
    exact g5
  · rw [lexW_tok hx] at h
    have hn : n ≤ r.length := by have := lexeme_le c r; rw [hx] at this; exact this
    have hl : (r.drop n).length = r.length - n := List.length_drop
    cases hy : lexW (p + 1 + n) (r.drop n) with
    | error x => rw [hy] at h; simp [glue] at h
    | ok l' =>
      rw [hy] at h
      obtain rfl : ⟨k, p, t, v⟩ :: l' = l := by simpa [glue] using h
      obtain ⟨h1, h2, h3⟩ := ih l' hy
      refine ⟨fun i u hu => ?_, fun i a b ha hb => ?_, by simp at h3 ⊢; omega⟩
      · cases i with
        | zero =>
          obtain rfl : ⟨k, p, t, v⟩ = u := by simpa using hu
          refine ⟨Nat.le_refl _, by simp, fun hk => ?_⟩
          have ht := lexeme_word hx hk
          subst ht
          simp only [List.length_cons, List.length_take, Nat.sub_self, List.drop_zero]
          refine ⟨by omega, ?_⟩
          rw [Nat.min_eq_left hn, List.take_succ_cons]
        | succ i =>
          obtain ⟨g1, g2, g3⟩ := h1 i u (by simpa using hu)
          refine ⟨by omega, by simp; omega, fun hk => ?_⟩
          obtain ⟨g4, g5⟩ := g3 hk
          refine ⟨by simp; omega, ?_⟩
          rw [show u.pos - p = (n + (u.pos - (p + 1 + n))) + 1 by omega, List.drop_succ_cons, ← List.drop_drop]
          exact g5
      · cases i with
        | zero =>
          obtain rfl : ⟨k, p, t, v⟩ = a := by simpa using ha
          have := (h1 0 b (by simpa using hb)).1
          show p < b.pos
          omega
        | succ i => exact h2 i a b (by simpa using ha) (by simpa using hb)
  · rw [lexW_err hx] at h; cases h
/-- What is wrong lies within the text. -/
theorem lexW_error : ∀ (S : List UInt8) (p e q : Nat), lexW p S = .error (e, q) → p ≤ q ∧ q < p + S.length ∧ (e = 6 ∨ e = 7) := by
  refine lexW_induct _ (fun p e q h => ?_) (fun p c r n hx ih e q h => ?_) (fun p c r n k t v hx ih e q h => ?_) (fun p c r n e' hx e q h => ?_)
  · rw [lexW_nil] at h; cases h
  · rw [lexW_none hx] at h
    have hn : n ≤ r.length := by have := lexeme_le c r; rw [hx] at this; exact this
    have := ih e q h
    simp at this ⊢
    omega
  · rw [lexW_tok hx] at h
    have hn : n ≤ r.length := by have := lexeme_le c r; rw [hx] at this; exact this
    cases hy : lexW (p + 1 + n) (r.drop n) with
    | error x =>
      rw [hy] at h
      obtain rfl : x = (e, q) := by simpa [glue] using h
      have := ih e q hy
      simp at this ⊢
      omega
    | ok l' => rw [hy] at h; simp [glue] at h
  · rw [lexW_err hx] at h
    obtain ⟨rfl, rfl⟩ := Prod.mk.inj (Except.error.inj h)
    refine ⟨Nat.le_refl _, by simp, ?_⟩
    unfold lexeme at hx
    repeat' split at hx
    all_goals simp only [Prod.mk.injEq, Except.error.injEq, reduceCtorEq, false_and] at hx
    all_goals omega

theorem takeWhile_append_stop (q : UInt8 → Bool) (Y : List UInt8) (hY : ∀ y, Y.head? = some y → q y = false) : ∀ X : List UInt8, (∀ x ∈ X, q x = true) → (X ++ Y).takeWhile q = X
  | [], _ => by
    cases Y with
    | nil => rfl
    | cons y Y => simp [hY y rfl]
  | x :: X, h => by
    have hx := h x (by simp)
    rw [List.cons_append, List.takeWhile_cons, if_pos hx, takeWhile_append_stop q Y hY X fun z hz => h z (by simp [hz])]
theorem takeWhile_all (q : UInt8 → Bool) : ∀ (r : List UInt8), ∀ x ∈ r.takeWhile q, q x = true
  | [], x, hx => by simp at hx
  | c :: r, x, hx => by
    rw [List.takeWhile_cons] at hx
    split at hx
    · rename_i hc
      rcases List.mem_cons.1 hx with rfl | hx
      · exact hc
      · exact takeWhile_all q r x hx
    · simp at hx
theorem takeWhile_stop (q : UInt8 → Bool) : ∀ (r : List UInt8) (y : UInt8), (r.drop (r.takeWhile q).length).head? = some y → q y = false
  | [], y, h => by simp at h
  | c :: r, y, h => by
    rw [List.takeWhile_cons] at h
    split at h
    · exact takeWhile_stop q r y (by simpa using h)
    · rename_i hc
      obtain rfl : c = y := by simpa using h
      simpa using hc

theorem lexeme_none {c : UInt8} {r : List UInt8} {n : Nat} (h : lexeme c r = (Lx.none, n)) : (isBlank c = true ∧ n = 0) ∨ (c = 35 ∧ n = (r.takeWhile notEnd).length) := by
  unfold lexeme at h
  repeat' split at h
  all_goals simp only [Prod.mk.injEq, Except.ok.injEq, reduceCtorEq, false_and, true_and] at h
  · rename_i hc; exact .inl ⟨hc, h.symm⟩
  · rename_i hc; exact .inr ⟨by simpa using hc, h.symm⟩
theorem lexeme_blank {c : UInt8} (h : isBlank c = true) (r : List UInt8) : lexeme c r = (Lx.none, 0) := by unfold lexeme; rw [if_pos h]
theorem lexeme_hash (r : List UInt8) : lexeme 35 r = (Lx.none, (r.takeWhile notEnd).length) := by
  unfold lexeme
  rw [if_neg (by decide), if_neg (by decide), if_neg (by decide), if_neg (by decide), if_neg (by decide), if_neg (by decide), if_neg (by decide), if_pos (by decide)]
end Go.Proofs.YthddlchkbnmcaaaGreatDoor
namespace Go.Proofs.YthddlchkbnmcaaaGreatDoor
open Go Go.RowKit
set_option maxRecDepth 20000

/-- The extern that finds a byte. -/
theorem extern_idx (s : ByteArray) (c : Int) (w : World) : (callFunc 120 #[.string s, .int .u8 c]).run Tryz.prog w = .ok (.value (.int .i64 (Lib.indexByte s.data.toList c.toNat.toUInt8))) w := by
  rw [run_callFunc_extern (e := Extern.BytealgIndexByte.indexByte) Tryz.func120 (by kernel_rfl) (by kernel_rfl) (by kernel_rfl) (by kernel_rfl), Lib.run_indexByteString]
  rfl

set_option maxHeartbeats 400000 in
theorem idx_any (s : ByteArray) (c : Int) (w : World) :
    Calls Tryz.prog 91 #[.string s, .int .u8 c] w fun e w' => e = .returned (.int .i64 (Lib.indexByte s.data.toList c.toNat.toUInt8)) ∧ w' = w := by
  have h1 : ∀ W, (callFunc 120 #[.string s, .int .u8 c]).run Tryz.prog W = .ok (.value (.int .i64 (Lib.indexByte s.data.toList c.toNat.toUInt8))) W := extern_idx s c
  have h2 : ∀ W, Calls Tryz.prog 111 #[.string s, .int .u8 c] W fun e w' => e = .returned (.int .i64 (Lib.indexByte s.data.toList c.toNat.toUInt8)) ∧ w' = W := fun W => by
    go_enter Tryz.func111, Tryz.ntmps111
    go_wp2
    go_ret
    exact ⟨rfl, rfl⟩
  go_enter Tryz.func91, Tryz.ntmps91
  go_wp2_with fail
  refine (h2 _).mono ?_
  rintro e w1 ⟨rfl, rfl⟩
  go_wp2_with fail
  go_ret
  exact ⟨rfl, rfl⟩
theorem idx_iff (l : List UInt8) (c : UInt8) : 0 ≤ Lib.indexByte l c ↔ c ∈ l := by
  induction l with
  | nil => simp [Lib.indexByte]
  | cons b l ih =>
    have := Lib.indexByte_ge l c
    unfold Lib.indexByte
    by_cases h : (b == c) = true
    · rw [if_pos h]
      have : b = c := by simpa using h
      simp [this]
    · rw [if_neg h]
      have hne : ¬ c = b := fun e => h (by simp [e])
      by_cases h2 : (Lib.indexByte l c == -1) = true
      · rw [if_pos h2]
        have h3 : Lib.indexByte l c = -1 := by simpa using h2
        rw [h3] at ih
        simp only [List.mem_cons, hne, false_or, ← ih]
      · rw [if_neg h2]
        have h3 : ¬ Lib.indexByte l c = -1 := by simpa using h2
        simp only [List.mem_cons, hne, false_or, ← ih]
        omega
/-- Where a byte that is there stands first. -/
theorem idx_take (l : List UInt8) (c : UInt8) (h : 0 ≤ Lib.indexByte l c) : Lib.indexByte l c = ((l.takeWhile fun b => b != c).length : Nat) := by
  induction l with
  | nil => simp [Lib.indexByte] at h
  | cons b l ih =>
    have hge := Lib.indexByte_ge l c
    unfold Lib.indexByte at h ⊢
    by_cases h1 : (b == c) = true
    · rw [if_pos h1]
      have : b = c := by simpa using h1
      simp [this]
    · rw [if_neg h1] at h ⊢
      by_cases h2 : (Lib.indexByte l c == -1) = true
      · rw [if_pos h2] at h; omega
      · rw [if_neg h2]
        have h3 : ¬ Lib.indexByte l c = -1 := by simpa using h2
        have hb : (b != c) = true := by simpa using h1
        rw [List.takeWhile_cons, if_pos hb, List.length_cons, ih (by omega)]
        omega
theorem idx_none (l : List UInt8) (c : UInt8) (h : ¬ 0 ≤ Lib.indexByte l c) : (l.takeWhile fun b => b != c).length = l.length := by
  rw [idx_iff] at h
  have := takeWhile_append_stop (fun b => b != c) [] (fun y hy => by simp at hy) l fun b hb => by
    have : b ≠ c := fun e => h (e ▸ hb)
    simpa using this
  rw [List.append_nil] at this
  rw [this]

def abcL : List UInt8 := [97, 98, 99, 100, 101, 102, 103, 104, 105, 106, 107, 108, 109, 110, 111, 112, 113, 114, 115, 116, 117, 118, 119, 120, 121, 122]
def digL : List UInt8 := [48, 49, 50, 51, 52, 53, 54, 55, 56, 57]
theorem all256 (p : UInt8 → Bool) (h : (List.range 256).all (fun n => p (UInt8.ofNat n)) = true) (c : UInt8) : p c = true := by
  rw [List.all_eq_true] at h
  have := h c.toNat (by rw [List.mem_range]; exact c.toNat_lt)
  rwa [UInt8.ofNat_toNat] at this
theorem abc_let (c : UInt8) : decide (0 ≤ Lib.indexByte abcL c) = isLet c := by
  have := all256 (fun c => decide (0 ≤ Lib.indexByte abcL c) == isLet c) (by kernel_rfl) c
  simpa using this
theorem dig_dig (c : UInt8) : decide (0 ≤ Lib.indexByte digL c) = isDig c := by
  have := all256 (fun c => decide (0 ≤ Lib.indexByte digL c) == isDig c) (by kernel_rfl) c
  simpa using this

theorem tw_in (q : UInt8 → Bool) : ∀ (S : List UInt8) (k : Nat), k < (S.takeWhile q).length → ∃ b, S[k]? = some b ∧ q b = true
  | [], k, h => by simp at h
  | c :: S, k, h => by
    rw [List.takeWhile_cons] at h
    split at h
    · rename_i hc
      cases k with
      | zero => exact ⟨c, rfl, hc⟩
      | succ k =>
        obtain ⟨b, h1, h2⟩ := tw_in q S k (by simpa using h)
        exact ⟨b, by simpa using h1, h2⟩
    · simp at h
theorem tw_out (q : UInt8 → Bool) (S : List UInt8) (b : UInt8) (h : S[(S.takeWhile q).length]? = some b) : q b = false :=
  takeWhile_stop q S b (by rw [List.head?_drop]; exact h)
theorem byte_beq (b : UInt8) (c : UInt8) : (((b.toNat : Int)) == (c.toNat : Int)) = (b == c) := by
  rw [Bool.eq_iff_iff, beq_iff_eq, beq_iff_eq]
  constructor
  · intro h; exact UInt8.toNat_inj.1 (by exact_mod_cast h)
  · rintro rfl; rfl
theorem byte_q (s : ByteArray) (k : Nat) (hk : k < s.size) : s.data.toList[k]? = some s[k] := by
  rw [List.getElem?_eq_getElem (by simpa using hk)]; rfl

set_option maxHeartbeats 1000000 in
theorem row_any (s : ByteArray) (hs : s.size ≤ maxLen) (kind : ByteArray) (q : UInt8 → Bool) (hq : ∀ c, decide (0 ≤ Lib.indexByte kind.data.toList c) = q c) (w : World) :
    Calls Tryz.prog 92 #[.string s, .string kind] w fun e w' => e = .returned (.int .i64 ((s.data.toList.takeWhile q).length : Nat)) ∧ w' = w := by
  unfold maxLen at hs
  obtain ⟨T, hT⟩ : ∃ T, T = (s.data.toList.takeWhile q).length := ⟨_, rfl⟩
  have hTs : T ≤ s.size := by
    rw [hT, Lib.size_eq]; exact takeWhile_le q _
  have HIN : Hid (∀ k (hk : k < s.size), k < T → q s[k] = true) := fun k hk hkT => by
    obtain ⟨b, h1, h2⟩ := tw_in q s.data.toList k (by omega)
    rw [byte_q s k hk] at h1
    obtain rfl : s[k] = b := by simpa using h1
    exact h2
  have HOUT : Hid (∀ (hk : T < s.size), q s[T] = false) := fun hk => tw_out q s.data.toList _ (by rw [← hT]; exact byte_q s T hk)
  have HI : Hid (∀ (c : UInt8) W, Calls Tryz.prog 91 #[.string kind, .int .u8 (c.toNat : Int)] W fun e w' => e = .returned (.int .i64 (Lib.indexByte kind.data.toList c)) ∧ w' = W) := fun c W => by
    have := idx_any kind (c.toNat : Int) W
    rwa [show ((c.toNat : Int)).toNat.toUInt8 = c by simp] at this
  have HQ : Hid (∀ c, decide (0 ≤ Lib.indexByte kind.data.toList c) = q c) := hq
  rw [← hT]
  clear hT hq
  go_enter Tryz.func92, Tryz.ntmps92
  go_wp2_with fail
  go_loop [5] (fun n => ∃ k : Nat, k ≤ T ∧ n = .int .i64 (k : Int)) (fun n => T - (intOf n).toNat)
  case atStart => exact ⟨0, Nat.zero_le _, rfl⟩
  case round =>
    obtain ⟨k, hk, rfl⟩ := hrel
    by_cases hin : k < s.size
    · have hix : ∀ W, (Instr.index 9 (.string s) (.int .i64 (k : Int))).run Tryz.prog W = .ok (.int .u8 (s[k].toNat : Int)) W := fun W => by
        simp [go_sem, Tryz.underlying9, hin]
      obtain ⟨c, hc⟩ : ∃ c, c = s[k] := ⟨_, rfl⟩
      have C1 : Hid (∀ W, Calls Tryz.prog 91 #[.string kind, .int .u8 (c.toNat : Int)] W fun e w' => e = .returned (.int .i64 (Lib.indexByte kind.data.toList c)) ∧ w' = W) := HI.out c
      have hd := HQ.out c
      obtain ⟨J, hJ⟩ : ∃ J, J = Lib.indexByte kind.data.toList c := ⟨_, rfl⟩
      rw [← hJ] at C1 hd
      rw [← hc] at hix
      have hin' : (k : Int) < (s.size : Int) := by omega
      by_cases hkT : k < T
      · have hqc : q c = true := by rw [hc]; exact HIN.out k hin hkT
        have hJ0 : 0 ≤ J := by rw [hqc] at hd; exact of_decide_eq_true hd
        clear hd hqc hJ hc hin
        go_wp2_with fail
        refine (C1.out _).mono ?_
        rintro e w1 ⟨rfl, rfl⟩
        go_wp2_with fail
        go_round
        case rel => exact ⟨k + 1, by omega, by go_num⟩
        case measure => simp [intOf]; omega
      · have hkT' : k = T := by omega
        subst hkT'
        have hqc : q c = false := by rw [hc]; exact HOUT.out hin
        have hJ0 : ¬ 0 ≤ J := by rw [hqc] at hd; exact of_decide_eq_false hd
        clear hd hqc hJ hc hin hkT
        go_wp2_with fail
        refine (C1.out _).mono ?_
        rintro e w1 ⟨rfl, rfl⟩
        go_wp2_with fail
        go_ret
        exact ⟨rfl, rfl⟩
    · have hin' : (s.size : Int) ≤ (k : Int) := by omega
      have hkT' : k = T := by omega
      subst hkT'
      clear hin
      go_wp2_with fail
      go_ret
      exact ⟨rfl, rfl⟩

set_option maxHeartbeats 1000000 in
theorem remark_any (s : ByteArray) (w : World) :
    Calls Tryz.prog 68 #[.string s] w fun e w' => e = .returned (.int .i64 ((s.data.toList.takeWhile notEnd).length : Nat)) ∧ w' = w := by
  have C1 : Hid (∀ W, Calls Tryz.prog 91 #[.string s, .int .u8 10] W fun e w' => e = .returned (.int .i64 (Lib.indexByte s.data.toList 10)) ∧ w' = W) := fun W => idx_any s 10 W
  have h1 : 0 ≤ Lib.indexByte s.data.toList 10 → Lib.indexByte s.data.toList 10 = ((s.data.toList.takeWhile notEnd).length : Nat) := idx_take s.data.toList 10
  have h2 : ¬ 0 ≤ Lib.indexByte s.data.toList 10 → (s.data.toList.takeWhile notEnd).length = s.size := fun h => by
    rw [Lib.size_eq]; exact idx_none s.data.toList 10 h
  obtain ⟨J, hJ⟩ : ∃ J, J = Lib.indexByte s.data.toList 10 := ⟨_, rfl⟩
  obtain ⟨T, hT⟩ : ∃ T, T = (s.data.toList.takeWhile notEnd).length := ⟨_, rfl⟩
  rw [← hJ] at C1 h1 h2
  rw [← hT] at h1 h2 ⊢
  clear hJ hT
  by_cases h : 0 ≤ J
  · have := h1 h
    subst this
    clear h1 h2
    go_enter Tryz.func68, Tryz.ntmps68
    go_wp2_with fail
    refine (C1.out _).mono ?_
    rintro e w1 ⟨rfl, rfl⟩
    go_wp2_with fail
    go_ret
    exact ⟨rfl, rfl⟩
  · have := h2 h
    subst this
    clear h1 h2
    go_enter Tryz.func68, Tryz.ntmps68
    go_wp2_with fail
    refine (C1.out _).mono ?_
    rintro e w1 ⟨rfl, rfl⟩
    go_wp2_with fail
    go_ret
    exact ⟨rfl, rfl⟩
end Go.Proofs.YthddlchkbnmcaaaGreatDoor
namespace Go.Proofs.YthddlchkbnmcaaaGreatDoor
open Go
set_option maxRecDepth 20000

/-- A number in a text, and where it begins. -/
structure Fig where
  n : Int
  pos : Int
/-- A word and its numbers. -/
structure Cla where
  word : List UInt8
  pos : Int
  nums : List Fig
  slash : Bool
  dash : Bool
/-- A line. -/
structure Raw where
  pos : Int
  dflt : Bool
  prio : Fig
  clauses : List Cla
  drop : Bool
  port : Fig

def wSrc : List UInt8 := [115, 114, 99]
def wDst : List UInt8 := [100, 115, 116]
def wSport : List UInt8 := [115, 112, 111, 114, 116]
def wDport : List UInt8 := [100, 112, 111, 114, 116]
def wProto : List UInt8 := [112, 114, 111, 116, 111]
def wDefault : List UInt8 := [100, 101, 102, 97, 117, 108, 116]
def wDrop : List UInt8 := [100, 114, 111, 112]
def wPort : List UInt8 := [112, 111, 114, 116]
def isAddrW (w : List UInt8) : Bool := w == wSrc || w == wDst
def isPortW (w : List UInt8) : Bool := w == wSport || w == wDport

abbrev Res (α : Type) := Except (Nat × Nat) α

/-- Where the token at hand begins, or the text ends. -/
def posOf (E : Nat) : List Tok → Nat
  | [] => E
  | t :: _ => t.pos
/-- A token of a kind. -/
def takeK (E k : Nat) : List Tok → Res (Tok × List Tok)
  | [] => .error (8, E)
  | t :: T => if t.kind = k then .ok (t, T) else .error (8, t.pos)
/-- A number. -/
def takeF (E : Nat) (T : List Tok) : Res (Fig × List Tok) := (takeK E 2 T).map fun x => (⟨(x.1.num : Int), (x.1.pos : Int)⟩, x.2)
/-- So many numbers more, with a Dot ahead of each. -/
def takeD (E : Nat) : Nat → List Tok → Res (List Fig × List Tok)
  | 0, T => .ok ([], T)
  | n + 1, T => (takeK E 3 T).bind fun x => (takeF E x.2).bind fun y => (takeD E n y.2).map fun z => (y.1 :: z.1, z.2)
/-- Perhaps a sign and a number. -/
def takeO (E k : Nat) : List Tok → Res (Option Fig × List Tok)
  | [] => .ok (none, [])
  | t :: T => if t.kind = k then (takeF E T).map fun y => (some y.1, y.2) else .ok (none, t :: T)
/-- A clause, its word being the token at hand. -/
def takeC (E : Nat) (had : List Cla) (t : Tok) (T : List Tok) : Res (Cla × List Tok) :=
  if !(isAddrW t.text) && !(isPortW t.text) && !(t.text == wProto) then .error (8, t.pos)
  else if had.any (fun c => c.word == t.text) then .error (9, t.pos)
  else (takeF E T).bind fun x =>
    if isAddrW t.text then (takeD E 3 x.2).bind fun y => (takeO E 4 y.2).map fun z => (⟨t.text, (t.pos : Int), x.1 :: y.1 ++ z.1.toList, z.1.isSome, false⟩, z.2)
    else if isPortW t.text then (takeO E 5 x.2).map fun z => (⟨t.text, (t.pos : Int), x.1 :: z.1.toList, false, z.1.isSome⟩, z.2)
    else .ok (⟨t.text, (t.pos : Int), [x.1], false, false⟩, x.2)
/-- Clauses, as many as there are (so many at most). -/
def takeCs (E : Nat) : Nat → List Cla → List Tok → Res (List Cla × List Tok)
  | 0, had, T => .ok (had, T)
  | _ + 1, had, [] => .ok (had, [])
  | f + 1, had, t :: T => if t.kind = 1 then (takeC E had t T).bind fun x => takeCs E f (had ++ [x.1]) x.2 else .ok (had, t :: T)
/-- What is done: the word 'drop', or 'port' and a number. -/
def takeA (E : Nat) : List Tok → Res ((Bool × Fig) × List Tok)
  | [] => .error (8, E)
  | t :: T => if t.kind = 1 ∧ t.text = wDrop then .ok ((true, ⟨0, 0⟩), T) else if t.kind = 1 ∧ t.text = wPort then (takeF E T).map fun x => ((false, x.1), x.2) else .error (8, t.pos)
/-- The end of a line, which is not taken. -/
def takeE : List Tok → Res (List Tok)
  | [] => .ok []
  | t :: T => if t.kind = 7 then .ok (t :: T) else .error (8, t.pos)
/-- What stands ahead of the Arrow. -/
def takeH (E : Nat) : List Tok → Res ((Bool × Fig × List Cla) × List Tok)
  | [] => .error (8, E)
  | t :: T => if t.kind = 1 ∧ t.text = wDefault then .ok ((true, ⟨0, 0⟩, []), T) else (takeF E (t :: T)).bind fun x => (takeCs E x.2.length [] x.2).map fun y => ((false, x.1, y.1), y.2)
/-- A line. -/
def takeR (E : Nat) (T : List Tok) : Res (Raw × List Tok) :=
  (takeH E T).bind fun x => (takeK E 6 x.2).bind fun y => (takeA E y.2).bind fun z => (takeE z.2).map fun u => (⟨(posOf E T : Int), x.1.1, x.1.2.1, x.1.2.2, z.1.1, z.1.2⟩, u)
/-- Lines (so many steps at most). -/
def takeL (E : Nat) : Nat → List Raw → List Tok → Res (List Raw)
  | 0, had, _ => .ok had
  | _ + 1, had, [] => .ok had
  | f + 1, had, t :: T => if t.kind = 7 then takeL E f had T else if had.length = 64 then .error (4, t.pos) else (takeR E (t :: T)).bind fun x => takeL E f (had ++ [x.1]) x.2
/-- A text's lines. -/
def parseT (S : List UInt8) : Res (List Raw) :=
  if 4096 < S.length then .error (5, 4096) else match lexW 0 S with
    | .error x => .error x
    | .ok T => takeL S.length (T.length + 1) [] T

end Go.Proofs.YthddlchkbnmcaaaGreatDoor
namespace Go.Proofs.YthddlchkbnmcaaaGreatDoor
open Go Go.RowKit
set_option maxRecDepth 20000

theorem isBit_yes (i : Int) (w : World) (h0 : 0 ≤ i) (h1 : i < 104) :
    Calls Tryz.prog 108 #[.int .i64 i] w fun e w' => e = .returned (.bool true) ∧ w' = w := by
  go_enter Tryz.func108, Tryz.ntmps108
  go_wp2
  go_ret
  exact ⟨ret_bool (by simp), rfl⟩
theorem isBit_no (i : Int) (w : World) (h : ¬ (0 ≤ i ∧ i < 104)) :
    Calls Tryz.prog 108 #[.int .i64 i] w fun e w' => e = .returned (.bool false) ∧ w' = w := by
  by_cases h0 : 0 ≤ i
  · have h1 : 104 ≤ i := by omega
    go_enter Tryz.func108, Tryz.ntmps108
    go_wp2
    go_ret
    exact ⟨ret_bool (by simp; omega), rfl⟩
  · go_enter Tryz.func108, Tryz.ntmps108
    go_wp2
    go_ret
    exact ⟨ret_bool (by simp), rfl⟩

theorem sieve_any (i : Int) (w : World) (h0 : 0 ≤ i) (h1 : i < 104) :
    Calls Tryz.prog 109 #[.int .i64 i] w fun e w' => e = .returned (.int .u8 (128 / 2 ^ (i % 8).toNat)) ∧ w' = w := by
  go_enter Tryz.func109, Tryz.ntmps109
  go_wp2
  go_ret
  exact ⟨rfl, rfl⟩

set_option maxRecDepth 100000 in
theorem and_fin : ∀ x : Fin 256, ∀ j : Fin 8, (bits .and .u8 (x.val : Int) (128 / 2 ^ j.val) != 0) = ((x.val : Int) / 2 ^ (7 - j.val) % 2 == 1) := by decide +kernel
set_option maxRecDepth 100000 in
theorem xor_fin : ∀ x : Fin 256, ∀ j : Fin 8, bits .xor .u8 (bits .xor .u8 (x.val : Int) (128 / 2 ^ j.val)) (128 / 2 ^ j.val) = (x.val : Int) ∧ bits .xor .u8 (x.val : Int) (128 / 2 ^ j.val) ≠ (x.val : Int) ∧ 0 ≤ bits .xor .u8 (x.val : Int) (128 / 2 ^ j.val) ∧ bits .xor .u8 (x.val : Int) (128 / 2 ^ j.val) < 256 := by decide +kernel
set_option maxRecDepth 100000 in
theorem turn_fin : ∀ x : Fin 256, ∀ j : Fin 8, ∀ k : Fin 8, (bits .xor .u8 (x.val : Int) (128 / 2 ^ j.val) / 2 ^ (7 - k.val) % 2 == 1) = (((x.val : Int) / 2 ^ (7 - k.val) % 2 == 1) != decide (j = k)) := by decide +kernel

theorem and_bit (x i : Int) (hb0 : 0 ≤ x) (hb1 : x < 256) : (bits .and .u8 x (128 / 2 ^ (i % 8).toNat) != 0) = (x / 2 ^ (7 - i % 8).toNat % 2 == 1) := by
  have h := and_fin ⟨x.toNat, by omega⟩ ⟨(i % 8).toNat, by omega⟩
  simp only [] at h
  rw [show ((x.toNat : Nat) : Int) = x by omega, show 7 - (i % 8).toNat = (7 - i % 8).toNat by omega] at h
  exact h

def byteAt (L : List Int) (i : Int) : Int := L.getD (i / 8).toNat 0
def bitB (L : List Int) (i : Int) : Bool := decide (0 ≤ i ∧ i < 104) && (byteAt L i / 2 ^ (7 - i % 8).toNat % 2 == 1)

set_option maxHeartbeats 400000 in
theorem refBit_any (L : List Int) (hL : Byt L) (i : Int) (w : World) :
    Calls Tryz.prog 89 #[.agg (hv L), .int .i64 i] w fun e w' => e = .returned (.bool (bitB L i)) ∧ Below w.heap.size w w' := by
  by_cases hin : 0 ≤ i ∧ i < 104
  · obtain ⟨h0, h1⟩ := hin
    obtain ⟨x, hx, hxe⟩ : ∃ x, (hv L)[(i / 8).toNat]? = some (.int .u8 x) ∧ x = byteAt L i := ⟨_, hv_at L hL.1 _ (by omega), rfl⟩
    have hb : 0 ≤ x ∧ x < 256 := by rw [hxe]; exact hL.2 _
    obtain ⟨hb0, hb1⟩ := hb
    have HX : Hid (x = byteAt L i) := hxe
    clear hxe
    go_enter Tryz.func89, Tryz.ntmps89
    go_wp2
    go_ret
    refine ⟨ret_bool ?_, (Below.refl _ _).alloc (Nat.le_refl _) _⟩
    rw [Int.tmod_eq_emod_of_nonneg (Int.ediv_nonneg hb0 (Int.pow_nonneg (by decide))), HX.out]
    simp [bitB, h0, h1]
  · by_cases h0 : i < 0
    · go_enter Tryz.func89, Tryz.ntmps89
      go_wp2
      go_ret
      exact ⟨ret_bool (by simp [bitB]; omega), (Below.refl _ _).alloc (Nat.le_refl _) _⟩
    · have h1 : 103 < i := by omega
      have h0' : 0 ≤ i := by omega
      go_enter Tryz.func89, Tryz.ntmps89
      go_wp2
      go_ret
      exact ⟨ret_bool (by simp [bitB]; omega), (Below.refl _ _).alloc (Nat.le_refl _) _⟩

set_option maxHeartbeats 400000 in
theorem bit_any (L : List Int) (hL : Byt L) (i : Int) (w : World) :
    Calls Tryz.prog 85 #[.agg (hv L), .int .i64 i] w fun e w' => e = .returned (.bool (bitB L i)) ∧ Below w.heap.size w w' := by
  by_cases hin : 0 ≤ i ∧ i < 104
  · obtain ⟨h0, h1⟩ := hin
    obtain ⟨x, hx, hxe⟩ : ∃ x, (hv L)[(i / 8).toNat]? = some (.int .u8 x) ∧ x = byteAt L i := ⟨_, hv_at L hL.1 _ (by omega), rfl⟩
    have hb : 0 ≤ x ∧ x < 256 := by rw [hxe]; exact hL.2 _
    obtain ⟨hb0, hb1⟩ := hb
    have HX : Hid (x = byteAt L i) := hxe
    clear hxe
    go_enter Tryz.func85, Tryz.ntmps85
    go_wp2
    go_quiet (first | (go_at_call 108; exact Calls.quiet_of_same (isBit_yes _ _ h0 h1)) | (go_at_call 109; exact Calls.quiet_of_same (sieve_any _ _ h0 h1)))
    go_wp2
    go_ret
    refine ⟨ret_bool ?_, below_drewN ((Below.refl _ _).alloc (Nat.le_refl _) _) _⟩
    rw [and_bit x i hb0 hb1, HX.out]
    simp [bitB, h0, h1]
  · go_enter Tryz.func85, Tryz.ntmps85
    go_wp2
    go_quiet (first | (go_at_call 108; exact Calls.quiet_of_same (isBit_no _ _ hin)))
    go_wp2
    go_ret
    exact ⟨ret_bool (by simp [bitB]; omega), below_drewN ((Below.refl _ _).alloc (Nat.le_refl _) _) _⟩

def flipL (L : List Int) (i : Int) : List Int := if 0 ≤ i ∧ i < 104 then L.set (i / 8).toNat (bits .xor .u8 (byteAt L i) (128 / 2 ^ (i % 8).toNat)) else L

end Go.Proofs.YthddlchkbnmcaaaGreatDoor
namespace Go.Proofs.YthddlchkbnmcaaaGreatDoor
open Go Go.RowKit
set_option maxRecDepth 20000

theorem still_of_quiet {P : Program} {ops : Array Oper} {w : World} {Q : Act → Prop} : ∀ (l : List Oper) (a : Act), wpQuiet P ops (fun w' => w' = w) Q l a → wpStill P ops w Q l a
  | [], _, h => h
  | o :: rest, a, h => by
    unfold wpQuiet at h
    unfold wpStill
    split at h
    · rename_i hw
      rw [if_pos hw]
      obtain ⟨v, h1, h2⟩ := h
      have h2' := still_of_quiet rest _ h2
      have h1' := h1 w rfl
      unfold Oper.quietAt at h1'
      unfold Oper.still
      revert h1'
      generalize (execOp a.eval o).run P w = r
      intro h1'
      match r, h1' with
      | .ok (.value u) w', ⟨e1, e2⟩ => exact ⟨e1, by rw [e2]; exact h2'⟩
      | .ok .skip w', ⟨e1, e2⟩ => exact ⟨e1, by rw [← e2]; exact h2'⟩
      | .ok (.enter f args) w', ⟨e1, e2⟩ => exact ⟨e1, v, e2, h2'⟩
    · rename_i hw
      rw [if_neg hw]
      exact still_of_quiet rest _ h

theorem wp_region_tail {P : Program} {id : Nat} {Q : Exit → Act → World → Prop} {a : Act} {w : World} {l : List Oper} (n : Nat) (hm : P.follows .mixedOrders = true) (hB : Region.lexTailB .any l.toArray n = true)
    (h : wpQuiet P l.toArray (fun w' => w' = w.drew) (fun a' => wpList P l.toArray Q (l.drop n) a' w.drew) (l.take n) a) : (Code.region id l.toArray true).wp P Q a w :=
  wp_region_still_tail n hm hB (still_of_quiet _ _ h)

theorem heap_drew {w : World} {g : Nat} {x : Obj} (h : w.heap[g]? = some x) : w.drew.heap[g]? = some x := h

theorem hv_set (L : List Int) (k : Nat) (v : Int) : (hv L).setIfInBounds k (.int .u8 v) = hv (L.set k v) := by
  unfold hv
  rw [List.setIfInBounds_toArray, ← List.map_set]

set_option maxHeartbeats 400000 in
theorem flip_in (L : List Int) (hL : Byt L) (i : Int) (w : World) (h0 : 0 ≤ i) (h1 : i < 104) :
    Calls Tryz.prog 119 #[.agg (hv L), .int .i64 i] w fun e w' => e = .returned (.agg (hv (flipL L i))) ∧ Below w.heap.size w w' := by
  obtain ⟨x, hx, hxe⟩ : ∃ x, (hv L)[(i / 8).toNat]? = some (.int .u8 x) ∧ x = byteAt L i := ⟨_, hv_at L hL.1 _ (by omega), rfl⟩
  have hb : 0 ≤ x ∧ x < 256 := by rw [hxe]; exact hL.2 _
  obtain ⟨hb0, hb1⟩ := hb
  have HX : Hid (x = byteAt L i) := hxe
  clear hxe
  go_enter Tryz.func119, Tryz.ntmps119
  go_wp2_with (first | (go_at_call 108; refine (isBit_yes _ _ h0 h1).mono ?_; rintro e w' ⟨rfl, rfl⟩))
  refine wp_region_tail 8 (by kernel_rfl) (by kernel_rfl) ?_
  simp only [List.take_succ_cons, List.take_zero, List.drop_succ_cons, List.drop_zero]
  go_big_quiet_step (fail)
  go_big_quiet_step (fail)
  go_big_quiet_step (fail)
  go_big_quiet_step (fail)
  go_big_quiet_step (fail)
  go_big_quiet_want; go_big_quiet_op
  refine ⟨_, sieve_any _ _ h0 h1, ?_⟩
  go_big_quiet_on
  go_big_quiet_step (fail)
  go_big_quiet_step (fail)
  refine wpQuiet_nil ?_
  have hL2 : (L.set (i / 8).toNat (bits .xor .u8 x (128 / 2 ^ (i % 8).toNat))).length = 13 := by rw [List.length_set]; exact hL.1
  go_wp2_with (first
    | (refine wl_load26 rfl _ rfl w.heap.size rfl (L.set (i / 8).toNat (bits .xor .u8 x (128 / 2 ^ (i % 8).toNat))) (heap_drew (by rw [← hv_set]; exact heap_past _ _ _ _ (heap_new _ _ _ rfl))) hL2 ?_)
    | (refine wl_store26 rfl _ _ rfl (w.heap.size + 1) (L.set (i / 8).toNat (bits .xor .u8 x (128 / 2 ^ (i % 8).toNat))) rfl rfl _ (heap_drew (heap_new _ _ _ (by simp))) rfl hL2 _ (by rw [setRow_drew, setRow_new _ _ _ _ _ (by simp)]) ?_))
  refine ret26 (p := 4) rfl rfl (w.heap.size + 1) rfl _ hL2 (heap_drew (heap_new _ _ _ (by simp))) ⟨?_, ?_⟩
  · rw [HX.out]; unfold flipL; rw [if_pos ⟨h0, h1⟩]
  · exact (((Below.refl _ _).alloc (Nat.le_refl _) _).alloc (by simp) _).drew

set_option maxHeartbeats 400000 in
theorem flip_no (L : List Int) (hL : Byt L) (i : Int) (w : World) (hin : ¬ (0 ≤ i ∧ i < 104)) :
    Calls Tryz.prog 119 #[.agg (hv L), .int .i64 i] w fun e w' => e = .returned (.agg (hv (flipL L i))) ∧ Below w.heap.size w w' := by
  have hf : flipL L i = L := by unfold flipL; rw [if_neg hin]
  rw [hf]
  clear hf
  go_enter Tryz.func119, Tryz.ntmps119
  go_wp2_with (first | (go_at_call 108; refine (isBit_no _ _ hin).mono ?_; rintro e w' ⟨rfl, rfl⟩) | (refine wl_load26 rfl _ rfl w.heap.size rfl L (heap_past _ _ _ _ (heap_new _ _ _ rfl)) hL.1 ?_) | (refine wl_store26 rfl _ _ rfl (w.heap.size + 1) L rfl rfl _ (heap_new _ _ _ (by simp)) rfl hL.1 _ (setRow_new _ _ _ _ _ (by simp)) ?_))
  refine ret26 (p := 4) rfl rfl (w.heap.size + 1) rfl L hL.1 (heap_new _ _ _ (by simp)) ⟨rfl, ?_⟩
  exact ((Below.refl _ _).alloc (Nat.le_refl _) _).alloc (by simp) _

theorem flip_any (L : List Int) (hL : Byt L) (i : Int) (w : World) :
    Calls Tryz.prog 119 #[.agg (hv L), .int .i64 i] w fun e w' => e = .returned (.agg (hv (flipL L i))) ∧ Below w.heap.size w w' := by
  by_cases hin : 0 ≤ i ∧ i < 104
  · exact flip_in L hL i w hin.1 hin.2
  · exact flip_no L hL i w hin
end Go.Proofs.YthddlchkbnmcaaaGreatDoor
namespace Go.Proofs.YthddlchkbnmcaaaGreatDoor
open Go Go.RowKit
set_option maxRecDepth 20000

theorem getD_set (L : List Int) (j k : Nat) (v : Int) (hj : j < L.length) : (L.set j v).getD k 0 = if j = k then v else L.getD k 0 := by
  simp only [List.getD, List.getElem?_set]
  by_cases h : j = k
  · subst h; simp [hj]
  · simp [h]

theorem xor_byte (x i : Int) (hx : 0 ≤ x ∧ x < 256) : bits .xor .u8 (bits .xor .u8 x (128 / 2 ^ (i % 8).toNat)) (128 / 2 ^ (i % 8).toNat) = x ∧ bits .xor .u8 x (128 / 2 ^ (i % 8).toNat) ≠ x ∧ 0 ≤ bits .xor .u8 x (128 / 2 ^ (i % 8).toNat) ∧ bits .xor .u8 x (128 / 2 ^ (i % 8).toNat) < 256 := by
  have h := xor_fin ⟨x.toNat, by omega⟩ ⟨(i % 8).toNat, by omega⟩
  simp only [] at h
  rw [show ((x.toNat : Nat) : Int) = x by omega] at h
  exact h
theorem turn_byte (x i k : Int) (hx : 0 ≤ x ∧ x < 256) : (bits .xor .u8 x (128 / 2 ^ (i % 8).toNat) / 2 ^ (7 - k % 8).toNat % 2 == 1) = ((x / 2 ^ (7 - k % 8).toNat % 2 == 1) != decide (i % 8 = k % 8)) := by
  have h := turn_fin ⟨x.toNat, by omega⟩ ⟨(i % 8).toNat, by omega⟩ ⟨(k % 8).toNat, by omega⟩
  simp only [Fin.mk.injEq] at h
  rw [show ((x.toNat : Nat) : Int) = x by omega, show 7 - (k % 8).toNat = (7 - k % 8).toNat by omega] at h
  rw [h]
  congr 1
  rw [decide_eq_decide]
  omega

theorem flip_byt (L : List Int) (hL : Byt L) (i : Int) : Byt (flipL L i) := by
  unfold flipL
  split
  · rename_i h
    refine ⟨by rw [List.length_set]; exact hL.1, fun k => ?_⟩
    rw [getD_set _ _ _ _ (by rw [hL.1]; omega)]
    split
    · exact ⟨(xor_byte (byteAt L i) i (hL.2 _)).2.2.1, (xor_byte (byteAt L i) i (hL.2 _)).2.2.2⟩
    · exact hL.2 k
  · exact hL

theorem flip_bit (L : List Int) (hL : Byt L) (i k : Int) : bitB (flipL L i) k = (bitB L k != (decide (0 ≤ i ∧ i < 104) && decide (i = k))) := by
  by_cases h : 0 ≤ i ∧ i < 104
  · rw [decide_eq_true h]
    unfold flipL
    rw [if_pos h]
    by_cases hk : 0 ≤ k ∧ k < 104
    · have hlt : (i / 8).toNat < L.length := by rw [hL.1]; omega
      unfold bitB
      rw [decide_eq_true hk]
      simp only [Bool.true_and]
      unfold byteAt
      rw [getD_set _ _ _ _ hlt]
      by_cases e : (i / 8).toNat = (k / 8).toNat
      · rw [if_pos e]
        have := turn_byte (L.getD (i / 8).toNat 0) i k (hL.2 _)
        rw [this, ← e]
        congr 1
        rw [decide_eq_decide]; omega
      · rw [if_neg e, decide_eq_false (show ¬ i = k by rintro rfl; exact e rfl)]
        simp
    · unfold bitB
      rw [decide_eq_false hk, decide_eq_false (show ¬ i = k by rintro rfl; exact hk h)]
      simp
  · unfold flipL; rw [if_neg h, decide_eq_false h]; simp
end Go.Proofs.YthddlchkbnmcaaaGreatDoor
namespace Go.Proofs.YthddlchkbnmcaaaGreatDoor
open Go
set_option maxRecDepth 20000

/-- A token but for its place. -/
def st (t : Tok) : Nat × List UInt8 × Nat := (t.kind, t.text, t.num)
abbrev St := Nat × List UInt8 × Nat
def Any (_ : List UInt8) : Prop := True
/-- Bytes that come to these tokens, ahead of what is fit. -/
def Lexes (X : List UInt8) (ts : List St) (ok : List UInt8 → Prop) : Prop := ∀ (p : Nat) (Y : List UInt8), ok Y → ∃ T, T.map st = ts ∧ lexW p (X ++ Y) = glue T (lexW (p + X.length) Y)
theorem Lexes.append {A B : List UInt8} {ta tb : List St} {okA okB : List UInt8 → Prop} (h1 : Lexes A ta okA) (h2 : Lexes B tb okB) (h : ∀ Y, okB Y → okA (B ++ Y)) : Lexes (A ++ B) (ta ++ tb) okB := by
  intro p Y hY
  obtain ⟨T1, e1, g1⟩ := h1 p (B ++ Y) (h Y hY)
  obtain ⟨T2, e2, g2⟩ := h2 (p + A.length) Y hY
  refine ⟨T1 ++ T2, by rw [List.map_append, e1, e2], ?_⟩
  rw [List.append_assoc, g1, g2, glue_glue, List.length_append, Nat.add_assoc]
theorem Lexes.nil (ok : List UInt8 → Prop) : Lexes [] [] ok := fun p Y _ => ⟨[], rfl, by rw [glue_nil]; rfl⟩
/-! Digits. -/
/-- A number that a text may hold. -/
def okF (x : Fig) : Prop := 0 ≤ x.n ∧ x.n ≤ 4294967295
end Go.Proofs.YthddlchkbnmcaaaGreatDoor
namespace Go.Proofs.YthddlchkbnmcaaaGreatDoor
open Go
set_option maxRecDepth 20000

/-- A clause as it may be. -/
def okC (c : Cla) : Prop := (∀ x ∈ c.nums, okF x) ∧
  ((isAddrW c.word = true ∧ c.dash = false ∧ c.nums.length = if c.slash then 5 else 4) ∨ (isPortW c.word = true ∧ isAddrW c.word = false ∧ c.slash = false ∧ c.nums.length = if c.dash then 2 else 1) ∨
    (c.word = wProto ∧ c.slash = false ∧ c.dash = false ∧ c.nums.length = 1))
/-- A line as it may be. -/
structure okR (x : Raw) : Prop where
  prio : okF x.prio
  port : okF x.port
  clauses : ∀ c ∈ x.clauses, okC c
  apart : x.clauses.Pairwise fun a b => a.word ≠ b.word
  dflt : x.dflt = true → x.clauses = [] ∧ x.prio.n = 0
  drop : x.drop = true → x.port.n = 0

/-! The tokens of a line, parsed. -/
theorem map_cons {T : List Tok} {a : St} {b : List St} (h : T.map st = a :: b) : ∃ t T', T = t :: T' ∧ st t = a ∧ T'.map st = b := by
  cases T with
  | nil => simp at h
  | cons t T' =>
    rw [List.map_cons] at h
    exact ⟨t, T', rfl, (List.cons.inj h).1, (List.cons.inj h).2⟩
/-! What is parsed is as it may be. -/
theorem bind_ok {α β : Type} {x : Res α} {f : α → Res β} {b : β} (h : x.bind f = .ok b) : ∃ a, x = .ok a ∧ f a = .ok b := by
  cases x with
  | error e => simp [Except.bind] at h
  | ok a => exact ⟨a, rfl, h⟩
theorem map_ok {α β : Type} {x : Res α} {f : α → β} {b : β} (h : x.map f = .ok b) : ∃ a, x = .ok a ∧ f a = b := by
  cases x with
  | error e => simp [Except.map] at h
  | ok a => exact ⟨a, rfl, Except.ok.inj h⟩
theorem takeK_in {E k : Nat} {T T' : List Tok} {t : Tok} (h : takeK E k T = .ok (t, T')) : T = t :: T' ∧ t.kind = k := by
  cases T with
  | nil => simp [takeK] at h
  | cons u T =>
    rw [takeK] at h
    split at h
    · rename_i hk
      obtain ⟨rfl, rfl⟩ := Prod.mk.inj (Except.ok.inj h)
      exact ⟨rfl, hk⟩
    · cases h
end Go.Proofs.YthddlchkbnmcaaaGreatDoor
namespace Go.Proofs.YthddlchkbnmcaaaGreatDoor
open Go
set_option maxRecDepth 20000

/-- Neither Arrow nor Line. -/
def Free (A : List Tok) : Prop := ∀ t ∈ A, t.kind ≠ 6 ∧ t.kind ≠ 7
def Eats (T T' : List Tok) : Prop := ∃ A, T = A ++ T' ∧ Free A
theorem Eats.refl (T : List Tok) : Eats T T := ⟨[], rfl, fun t ht => by simp at ht⟩
theorem Eats.trans {T T' T'' : List Tok} (h1 : Eats T T') (h2 : Eats T' T'') : Eats T T'' := by
  obtain ⟨A, rfl, hA⟩ := h1
  obtain ⟨B, rfl, hB⟩ := h2
  refine ⟨A ++ B, by rw [List.append_assoc], fun t ht => ?_⟩
  rcases List.mem_append.1 ht with ht | ht
  · exact hA t ht
  · exact hB t ht
theorem Eats.one {t : Tok} {T : List Tok} (h6 : t.kind ≠ 6) (h7 : t.kind ≠ 7) : Eats (t :: T) T := ⟨[t], rfl, fun u hu => by rw [List.mem_singleton.1 hu]; exact ⟨h6, h7⟩⟩
theorem eats_K {E k : Nat} {T T' : List Tok} {t : Tok} (h : takeK E k T = .ok (t, T')) (h6 : k ≠ 6) (h7 : k ≠ 7) : Eats T T' := by
  obtain ⟨rfl, hk⟩ := takeK_in h
  exact Eats.one (by omega) (by omega)
theorem eats_F {E : Nat} {T T' : List Tok} {f : Fig} (h : takeF E T = .ok (f, T')) : Eats T T' := by
  obtain ⟨⟨t, T1⟩, h1, h2⟩ := map_ok h
  obtain ⟨_, rfl⟩ := Prod.mk.inj h2
  exact eats_K h1 (by decide) (by decide)
theorem eats_D {E : Nat} : ∀ {n : Nat} {T T' : List Tok} {l : List Fig}, takeD E n T = .ok (l, T') → Eats T T'
  | 0, T, T', l, h => by
    obtain ⟨_, rfl⟩ := Prod.mk.inj (Except.ok.inj h)
    exact Eats.refl _
  | n + 1, T, T', l, h => by
    rw [takeD] at h
    obtain ⟨⟨t, T1⟩, h1, ha⟩ := bind_ok h
    obtain ⟨⟨f, T2⟩, h2, hb⟩ := bind_ok ha
    obtain ⟨⟨l2, T3⟩, h3, hc⟩ := map_ok hb
    obtain ⟨_, rfl⟩ := Prod.mk.inj hc
    exact ((eats_K h1 (by decide) (by decide)).trans (eats_F h2)).trans (eats_D h3)
theorem eats_O {E k : Nat} {T T' : List Tok} {o : Option Fig} (h : takeO E k T = .ok (o, T')) (h6 : k ≠ 6) (h7 : k ≠ 7) : Eats T T' := by
  cases T with
  | nil =>
    obtain ⟨_, rfl⟩ := Prod.mk.inj (Except.ok.inj h)
    exact Eats.refl _
  | cons t T =>
    rw [takeO] at h
    split at h
    · rename_i hk
      obtain ⟨⟨f, T1⟩, h1, h2⟩ := map_ok h
      obtain ⟨_, rfl⟩ := Prod.mk.inj h2
      exact (Eats.one (by omega) (by omega)).trans (eats_F h1)
    · obtain ⟨_, rfl⟩ := Prod.mk.inj (Except.ok.inj h)
      exact Eats.refl _
theorem eats_C {E : Nat} {had : List Cla} {t : Tok} {T T' : List Tok} {c : Cla} (h : takeC E had t T = .ok (c, T')) : Eats T T' := by
  unfold takeC at h
  split at h
  · cases h
  split at h
  · cases h
  obtain ⟨⟨f, T1⟩, h1, ha⟩ := bind_ok h
  have e1 := eats_F h1
  simp only at ha
  split at ha
  · obtain ⟨⟨l, T2⟩, h2, hb⟩ := bind_ok ha
    obtain ⟨⟨o, T3⟩, h3, hc⟩ := map_ok hb
    obtain ⟨_, rfl⟩ := Prod.mk.inj hc
    exact (e1.trans (eats_D h2)).trans (eats_O h3 (by decide) (by decide))
  · split at ha
    · obtain ⟨⟨o, T3⟩, h3, hc⟩ := map_ok ha
      obtain ⟨_, rfl⟩ := Prod.mk.inj hc
      exact e1.trans (eats_O h3 (by decide) (by decide))
    · obtain ⟨_, rfl⟩ := Prod.mk.inj (Except.ok.inj ha)
      exact e1
theorem eats_Cs {E : Nat} : ∀ {f : Nat} {had : List Cla} {T T' : List Tok} {l : List Cla}, takeCs E f had T = .ok (l, T') → Eats T T'
  | 0, had, T, T', l, h => by
    obtain ⟨_, rfl⟩ := Prod.mk.inj (Except.ok.inj h)
    exact Eats.refl _
  | f + 1, had, [], T', l, h => by
    obtain ⟨_, rfl⟩ := Prod.mk.inj (Except.ok.inj h)
    exact Eats.refl _
  | f + 1, had, t :: T, T', l, h => by
    rw [takeCs] at h
    split at h
    · rename_i hk
      obtain ⟨⟨c, T1⟩, h3, ha⟩ := bind_ok h
      exact ((Eats.one (by omega) (by omega)).trans (eats_C h3)).trans (eats_Cs ha)
    · obtain ⟨_, rfl⟩ := Prod.mk.inj (Except.ok.inj h)
      exact Eats.refl _
end Go.Proofs.YthddlchkbnmcaaaGreatDoor
namespace Go.Proofs.YthddlchkbnmcaaaGreatDoor
open Go Go.RowKit
set_option maxRecDepth 20000

theorem wl_minI {ops : Array Oper} {rest : List Oper} {o : Oper} {a : Act} {w : World} {Q : Exit → Act → World → Prop} (hgd : o.guard = none) (x y : Operand) (ho : o.op = .call { callee := .builtin .min, args := #[x, y], argTypes := #[3, 3] })
    (p q r : Int) (hx : a.eval x = .int .i64 p) (hy : a.eval y = .int .i64 q) (hr : r = min p q) (h : wpList Tryz.prog ops Q rest (a.put o.dst (.int .i64 r)) w) : wpList Tryz.prog ops Q (o :: rest) a w := by
  obtain ⟨dst, op, ty, pos, after, guard⟩ := o
  subst ho
  have hr : (execOp a.eval ⟨dst, .call { callee := .builtin .min, args := #[x, y], argTypes := #[3, 3] }, ty, pos, after, guard⟩).run Tryz.prog w = .ok (.value (.int .i64 r)) w := by
    subst hr
    by_cases h1 : p ≤ q
    · rw [show min p q = p by omega]
      unfold execOp
      simp [resolve, invoke, builtin, hx, hy, Builtin.min_, Builtin.min2]
      all_goals omega
    · rw [show min p q = q by omega]
      unfold execOp
      simp [resolve, invoke, builtin, hx, hy, Builtin.min_, Builtin.min2]
      all_goals omega
  refine wpList_plain hgd fun K hK => ?_
  unfold Oper.wp
  rw [hr]
  exact hK _ _ h
theorem wl_maxI {ops : Array Oper} {rest : List Oper} {o : Oper} {a : Act} {w : World} {Q : Exit → Act → World → Prop} (hgd : o.guard = none) (x y : Operand) (ho : o.op = .call { callee := .builtin .max, args := #[x, y], argTypes := #[3, 3] })
    (p q r : Int) (hx : a.eval x = .int .i64 p) (hy : a.eval y = .int .i64 q) (hr : r = max p q) (h : wpList Tryz.prog ops Q rest (a.put o.dst (.int .i64 r)) w) : wpList Tryz.prog ops Q (o :: rest) a w := by
  obtain ⟨dst, op, ty, pos, after, guard⟩ := o
  subst ho
  have hr : (execOp a.eval ⟨dst, .call { callee := .builtin .max, args := #[x, y], argTypes := #[3, 3] }, ty, pos, after, guard⟩).run Tryz.prog w = .ok (.value (.int .i64 r)) w := by
    subst hr
    by_cases h1 : q ≤ p
    · rw [show max p q = p by omega]
      unfold execOp
      simp [resolve, invoke, builtin, hx, hy, Builtin.max_, Builtin.max2]
      all_goals omega
    · rw [show max p q = q by omega]
      unfold execOp
      simp [resolve, invoke, builtin, hx, hy, Builtin.max_, Builtin.max2]
      all_goals omega
  refine wpList_plain hgd fun K hK => ?_
  unfold Oper.wp
  rw [hr]
  exact hK _ _ h
end Go.Proofs.YthddlchkbnmcaaaGreatDoor
namespace Go.Proofs.YthddlchkbnmcaaaGreatDoor
open Go Go.RowKit
set_option maxRecDepth 20000

/-- How many numbers a piece of so many bits has. -/
def sz (b : Nat) : Nat := 2 ^ (16 - b)
theorem sz_pos (b : Nat) : 0 < sz b := Nat.pow_pos (by decide)
theorem sz_le (b : Nat) : sz b ≤ 65536 := by
  unfold sz
  exact Nat.le_trans (Nat.pow_le_pow_right (by decide) (Nat.sub_le 16 b)) (by decide)
theorem sz_16 : sz 16 = 1 := rfl
/-- A piece of so many bits begins at n and has no number beyond h. -/
def okP (n h b : Nat) : Bool := n % sz b == 0 && decide (n + sz b ≤ h + 1)
theorem okP_iff (n h b : Nat) : okP n h b = true ↔ n % sz b = 0 ∧ n + sz b ≤ h + 1 := by simp [okP]
theorem okP_16 (n h : Nat) (hn : n ≤ h) : okP n h 16 = true := by rw [okP_iff, sz_16]; omega

/-- The fewest bits. -/
def gr (n h : Nat) : Nat := ((List.range 17).find? (okP n h)).getD 16
def IsGr (n h b : Nat) : Prop := b ≤ 16 ∧ okP n h b = true ∧ ∀ c, c < b → okP n h c = false
theorem IsGr.eq {n h b c : Nat} (h1 : IsGr n h b) (h2 : IsGr n h c) : b = c := by
  rcases Nat.lt_trichotomy b c with h3 | h3 | h3
  · exact absurd h1.2.1 (by rw [h2.2.2 b h3]; decide)
  · exact h3
  · exact absurd h2.2.1 (by rw [h1.2.2 c h3]; decide)
theorem gr_is (n h : Nat) (hn : n ≤ h) : IsGr n h (gr n h) := by
  unfold gr
  cases e : (List.range 17).find? (okP n h) with
  | none =>
    rw [List.find?_eq_none] at e
    exact absurd (okP_16 n h hn) (e 16 (by simp))
  | some b =>
    rw [List.find?_range_eq_some] at e
    obtain ⟨h1, h2, h3⟩ := e
    refine ⟨by simp at h2; simp; omega, h1, fun c hc => by simpa using h3 c hc⟩
theorem gr_eq {n h b : Nat} (hn : n ≤ h) (hb : IsGr n h b) : gr n h = b := (gr_is n h hn).eq hb

/-- The pieces from n on, up to h, so many at most. -/
def rngF (h : Nat) : Nat → Nat → List (Nat × Nat)
  | 0, _ => []
  | f + 1, n => if n ≤ h then (n, gr n h) :: rngF h f (n + sz (gr n h)) else []
/-- The pieces from n on, up to h. -/
def rng (h n : Nat) : List (Nat × Nat) := rngF h (h + 1 - n) n
theorem rngF_more (h : Nat) : ∀ f g n, h + 1 - n ≤ f → h + 1 - n ≤ g → rngF h f n = rngF h g n
  | 0, 0, _, _, _ => rfl
  | 0, g + 1, n, hf, _ => by rw [rngF, rngF, if_neg (by omega)]
  | f + 1, 0, n, _, hg => by rw [rngF, rngF, if_neg (by omega)]
  | f + 1, g + 1, n, hf, hg => by
    rw [rngF, rngF]
    by_cases hn : n ≤ h
    · have := sz_pos (gr n h)
      rw [if_pos hn, if_pos hn, rngF_more h f g (n + sz (gr n h)) (by omega) (by omega)]
    · rw [if_neg hn, if_neg hn]
theorem rng_cons {h n : Nat} (hn : n ≤ h) : rng h n = (n, gr n h) :: rng h (n + sz (gr n h)) := by
  have := sz_pos (gr n h)
  unfold rng
  rw [show h + 1 - n = (h - n) + 1 by omega, rngF, if_pos hn, rngF_more h (h - n) (h + 1 - (n + sz (gr n h))) (n + sz (gr n h)) (by omega) (by omega)]
theorem rng_nil {h n : Nat} (hn : h < n) : rng h n = [] := by
  unfold rng
  rw [show h + 1 - n = 0 by omega, rngF]
theorem rng_next {h n : Nat} (hn : n ≤ h) : n < n + sz (gr n h) ∧ n + sz (gr n h) ≤ h + 1 := by
  have := sz_pos (gr n h)
  have := ((okP_iff _ _ _).1 (gr_is n h hn).2.1).2
  omega

theorem rng_induct (h : Nat) (P : Nat → Prop) (h0 : ∀ n, h < n → P n) (h1 : ∀ n, n ≤ h → P (n + sz (gr n h)) → P n) : ∀ n, P n := by
  have key : ∀ d n, h + 1 - n ≤ d → P n := by
    intro d
    induction d with
    | zero => intro n hn; exact h0 n (by omega)
    | succ d ih =>
      intro n hn
      by_cases hl : n ≤ h
      · exact h1 n hl (ih _ (by have := rng_next hl; omega))
      · exact h0 n (by omega)
  exact fun n => key _ n (Nat.le_refl _)

theorem rng_mem (h : Nat) (n : Nat) : ∀ p ∈ rng h n, n ≤ p.1 ∧ p.1 ≤ h ∧ p.2 = gr p.1 h := by
  refine rng_induct h (fun n => ∀ p ∈ rng h n, n ≤ p.1 ∧ p.1 ≤ h ∧ p.2 = gr p.1 h) (fun n hn => by rw [rng_nil hn]; simp) (fun n hn ih => ?_) n
  rw [rng_cons hn]
  intro p hp
  rcases List.mem_cons.1 hp with rfl | hp
  · exact ⟨Nat.le_refl _, hn, rfl⟩
  · have := ih p hp
    have := rng_next hn
    omega
theorem rng_bits {h n : Nat} {p : Nat × Nat} (hp : p ∈ rng h n) : p.2 ≤ 16 := by
  obtain ⟨_, h2, h3⟩ := rng_mem h n p hp
  rw [h3]; exact (gr_is _ _ h2).1

/-- Has a piece a number? -/
def inP (p : Nat × Nat) (x : Nat) : Bool := decide (p.1 ≤ x) && decide (x < p.1 + sz p.2)
theorem cnt_rng (h x : Nat) : ∀ n, ((rng h n).filter fun p => inP p x).length = if n ≤ x ∧ x ≤ h then 1 else 0 := by
  refine rng_induct h _ (fun n hn => ?_) (fun n hn ih => ?_)
  · rw [rng_nil hn, if_neg (by omega)]; rfl
  · have hx := rng_next hn
    rw [rng_cons hn, List.filter_cons]
    by_cases c : n ≤ x ∧ x < n + sz (gr n h)
    · rw [if_pos (by simp [inP, c]), List.length_cons, ih, if_neg (by omega), if_pos (by omega)]
    · rw [if_neg (by simp only [inP, Bool.and_eq_true, decide_eq_true_eq]; exact c), ih]
      by_cases d : n + sz (gr n h) ≤ x ∧ x ≤ h
      · rw [if_pos d, if_pos (by omega)]
      · rw [if_neg d, if_neg (by omega)]

/-- The down-going half: so many pieces at most. -/
theorem rng_down (h : Nat) : ∀ k n, k ≤ 16 → n % 2 ^ k = 0 → h + 1 < n + 2 ^ k → (rng h n).length ≤ k
  | 0, n, _, _, hr => by rw [rng_nil (by simpa using hr)]; exact Nat.le_refl _
  | k + 1, n, hk, hd, hr => by
    have e1 : 2 ^ (k + 1) = 2 * 2 ^ k := by rw [Nat.pow_succ]; omega
    have hdk : n % 2 ^ k = 0 := by
      rw [e1] at hd
      have := Nat.div_add_mod n (2 * 2 ^ k)
      rw [hd] at this
      rw [← this, Nat.add_zero, Nat.mul_comm 2, Nat.mul_assoc]
      exact Nat.mul_mod_right _ _
    by_cases hs : h + 1 < n + 2 ^ k
    · exact Nat.le_succ_of_le (rng_down h k n (by omega) hdk hs)
    · have hp : 0 < 2 ^ k := Nat.pow_pos (by decide)
      have hn : n ≤ h := by omega
      have hg : gr n h = 16 - k := by
        refine gr_eq hn ⟨by omega, ?_, fun c hc => ?_⟩
        · rw [okP_iff, sz, show 16 - (16 - k) = k by omega]; exact ⟨hdk, by omega⟩
        · cases e : okP n h c with
          | false => rfl
          | true =>
            have h2 := ((okP_iff _ _ _).1 e).2
            have : 2 ^ (k + 1) ≤ sz c := Nat.pow_le_pow_right (by decide) (by omega)
            omega
      have hz : sz (gr n h) = 2 ^ k := by rw [hg, sz, show 16 - (16 - k) = k by omega]
      rw [rng_cons hn, List.length_cons, hz]
      have := rng_down h k (n + 2 ^ k) (by omega) (by rw [Nat.add_mod_right]; exact hdk) (by omega)
      omega

/-- The up-going half. -/
theorem rng_up (h : Nat) (hh : h ≤ 65535) : ∀ d n, d ≤ 15 → 0 < n → n ≤ 65536 → n % 2 ^ (15 - d) = 0 → (rng h n).length ≤ 15 + d
  | 0, n, _, h0, h1, hd => by
    have hd' : n % 32768 = 0 := hd
    rcases (show n = 32768 ∨ n = 65536 by omega) with rfl | rfl
    · by_cases hr : h + 1 < 32768 + 32768
      · exact rng_down h 15 32768 (by decide) (by decide) hr
      · obtain rfl : h = 65535 := by omega
        have hg : gr 32768 65535 = 1 := by decide
        rw [rng_cons (by decide), hg, rng_nil (by decide)]
        decide
    · rw [rng_nil (by omega)]; exact Nat.zero_le _
  | d + 1, n, hd1, h0, h1, hd => by
    obtain ⟨j, hj⟩ : ∃ j, j = 15 - (d + 1) := ⟨_, rfl⟩
    have hj1 : 15 - d = j + 1 := by omega
    rw [← hj] at hd
    have e1 : 2 ^ (j + 1) = 2 * 2 ^ j := by rw [Nat.pow_succ]; omega
    have hp : 0 < 2 ^ j := Nat.pow_pos (by decide)
    by_cases he : n % 2 ^ (j + 1) = 0
    · exact Nat.le_succ_of_le (rng_up h hh d n (by omega) h0 h1 (by rw [hj1]; exact he))
    · by_cases hr : h + 1 < n + 2 ^ j
      · have := rng_down h j n (by omega) hd hr
        omega
      · have hn : n ≤ h := by omega
        have hg : gr n h = 16 - j := by
          refine gr_eq hn ⟨by omega, ?_, fun c hc => ?_⟩
          · rw [okP_iff, sz, show 16 - (16 - j) = j by omega]; exact ⟨hd, by omega⟩
          · cases e : okP n h c with
            | false => rfl
            | true =>
              have h2 := ((okP_iff _ _ _).1 e).1
              refine absurd ?_ he
              have : 2 ^ (j + 1) ∣ sz c := Nat.pow_dvd_pow 2 (by omega)
              exact Nat.mod_eq_zero_of_dvd (Nat.dvd_trans this (Nat.dvd_of_mod_eq_zero h2))
        have hz : sz (gr n h) = 2 ^ j := by rw [hg, sz, show 16 - (16 - j) = j by omega]
        rw [rng_cons hn, List.length_cons, hz]
        have hm : (n + 2 ^ j) % 2 ^ (j + 1) = 0 := by
          rw [e1] at he ⊢
          have h2 := Nat.div_add_mod n (2 ^ j)
          rw [hd] at h2
          have h3 : ¬ (n / 2 ^ j) % 2 = 0 := fun h4 => he (by
            have h5 : n / 2 ^ j = 2 * (n / 2 ^ j / 2) := by omega
            have h6 : n = 2 * 2 ^ j * (n / 2 ^ j / 2) := by
              rw [Nat.mul_comm 2 (2 ^ j), Nat.mul_assoc, ← h5]; omega
            rw [h6]; exact Nat.mul_mod_right _ _)
          have h5 : n / 2 ^ j + 1 = 2 * ((n / 2 ^ j + 1) / 2) := by omega
          have h6 : n + 2 ^ j = 2 * 2 ^ j * ((n / 2 ^ j + 1) / 2) := by
            rw [Nat.mul_comm 2 (2 ^ j), Nat.mul_assoc, ← h5, Nat.mul_add]; omega
          rw [h6]; exact Nat.mul_mod_right _ _
        have := rng_up h hh d (n + 2 ^ j) (by omega) (by omega) (by omega) (by rw [hj1]; exact hm)
        omega

theorem rng_few (h n : Nat) (hh : h ≤ 65535) (hn : n ≤ 65536) : (rng h n).length ≤ 30 := by
  by_cases h0 : n = 0
  · subst h0
    by_cases hr : h + 1 < 0 + 2 ^ 16
    · have := rng_down h 16 0 (by decide) (by decide) hr
      omega
    · obtain rfl : h = 65535 := by omega
      have hg : gr 0 65535 = 0 := by decide
      rw [rng_cons (by decide), hg, rng_nil (by decide)]
      decide
  · exact rng_up h hh 15 n (by decide) (by omega) hn (by rw [show 15 - 15 = 0 from rfl, Nat.pow_zero]; exact Nat.mod_one n)

end Go.Proofs.YthddlchkbnmcaaaGreatDoor
