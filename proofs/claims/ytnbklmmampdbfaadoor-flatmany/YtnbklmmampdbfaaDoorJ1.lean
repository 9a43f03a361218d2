import Derived.Test.YtnbklmmampdbfaaDoorRows
import Derived.Test.YtnbklmmampdbfaaDoorProg
import Derived.ProofKit
import Derived.OpenShut
import Derived.Carry
import Derived.WalkKit
import Derived.WalkSpells
import Derived.WalkLawsBesides
import Derived.BigQuiet
import Derived.KernelRfl
import Derived.Laws.StructEq
import Derived.Laws.Tables
import Derived.Laws.Rows
import Derived.Great.BuildSlice
import Derived.Laws.AppendOwn
import Derived.Laws.OwnMore
import Derived.Maps.AppendAt
import Derived.Deep.Slices
import Derived.Lib.Bytealg
import Derived.Lib.UnsafeStr
import Derived.Lib.BufferWrite
import Derived.Laws.MakeOwn
import Derived.OwnWalk
import Derived.StillTailTactics
import Derived.StillTail
import Derived.OrdersHeld
import Derived.WalkMore
namespace Go.Proofs.YtnbklmmampdbfaaDoor
open Go.ChangeShapes Go.WideShapes Go.ChangeAt Go.WideMaps Go.WideElems Go.RowKit
set_option maxRecDepth 20000

theorem ownK : ownKnob Tryd.prog.godebug = none := by kernel_rfl
theorem laidK : laidOutB Tryd.prog = true := by kernel_rfl
end Go.Proofs.YtnbklmmampdbfaaDoor
namespace Go.Proofs.YtnbklmmampdbfaaDoor
open Go Go.RowKit
set_option maxRecDepth 20000

theorem ret_bool {a b : Bool} (h : a = b) : Ending.returned (.bool a) = .returned (.bool b) := by rw [h]
theorem ret_int {k : IntKind} {a b : Int} (h : a = b) : Ending.returned (.int k a) = .returned (.int k b) := by rw [h]

def hv (L : List Int) : Array Value := (L.map (Value.int .u8)).toArray
def Byt (L : List Int) : Prop := L.length = 13 ∧ ∀ k, 0 ≤ L.getD k 0 ∧ L.getD k 0 < 256

theorem hv_size (L : List Int) : (hv L).size = L.length := by simp [hv]
theorem hv_at (L : List Int) (hL : L.length = 13) (k : Nat) (hk : k < 13) : (hv L)[k]? = some (.int .u8 (L.getD k 0)) := by
  unfold hv
  simp [List.getElem?_map, List.getElem?_eq_getElem (show k < L.length by omega), List.getD]
theorem hv_one (L : List Int) : (hv L).all (·.oneCell') = true := by
  simp [hv, Value.oneCell']
theorem hv_inj {L M : List Int} (h : hv L = hv M) : L = M := by
  have h' : L.map (Value.int .u8) = M.map (Value.int .u8) := by simpa [hv] using h
  exact (List.map_inj_right (fun a b e => by simpa using e)).1 h'

theorem part5 (L : List Int) (hL : L.length = 13) (k : Nat) (hk : k < 13) (w : World) : (part 5 (hv L) k).run Tryd.prog w = .ok (.int .u8 (L.getD k 0)) w := by
  have u5 := Tryd.underlying5
  have hx := hv_at L hL k hk
  have hz : ∀ w, (sizeOf 5).run Tryd.prog w = .ok 1 w := fun w => by kernel_rfl
  have ha : ∀ w, (isAgg 5).run Tryd.prog w = .ok false w := fun w => by kernel_rfl
  simp [part, ha, hx, Sem.run_bind]

theorem loop26 (L M : List Int) (hL : L.length = 13) (hM : M.length = 13) (w : World) (k : Option Bool × Unit → World → Result Bool) (k1 : k (some false, ()) w = .ok false w) (k2 : k (none, ()) w = .ok true w) : ∀ (is : List Nat), (∀ i ∈ is, i < 13) →
    ((forIn is ((none, ()) : Option Bool × Unit) fun i (_ : Option Bool × Unit) => (do
            if !(← Op.equalIn 9999 5 (← part 5 (hv L) (i * 1)) (← part 5 (hv M) (i * 1))) then pure (ForInStep.done (some false, ())) else pure (ForInStep.yield (none, ())) : Sem (ForInStep (Option Bool × Unit)))).run Tryd.prog w).andThen k = .ok (is.all fun i => L.getD i 0 == M.getD i 0) w := by
  intro is
  induction is with
  | nil => intro _; simpa using k2
  | cons i is ih =>
    intro h
    have hi := h i (by simp)
    have ih' := ih (fun j hj => h j (by simp [hj]))
    have e : (Op.equalIn 9999 5 (.int .u8 (L.getD i 0)) (.int .u8 (M.getD i 0))).run Tryd.prog w = .ok (L.getD i 0 == M.getD i 0) w := run_equalIn_int w 9998 5 .u8 .u8 _ _ Tryd.underlying5
    simp only [List.forIn_cons, Sem.run_bind, Nat.mul_one, part5 L hL i hi, part5 M hM i hi, Result.andThen_ok, e]
    by_cases hc : (L.getD i 0 == M.getD i 0) = true
    · simp only [hc, Bool.not_true, Bool.false_eq_true, if_false, Sem.run_pure, Result.andThen_ok, List.all_cons, Bool.true_and]
      simpa only [Sem.run_bind, Nat.mul_one] using ih'
    · have hc' : (L.getD i 0 == M.getD i 0) = false := by simpa using hc
      simp only [hc', Bool.not_false, if_true, Sem.run_pure, Result.andThen_ok, List.all_cons, Bool.false_and]
      exact k1

theorem loopN (d : Nat) (L M : List Int) (hL : L.length = 13) (hM : M.length = 13) (w : World) (k : Option Bool × Unit → World → Result Bool) (k1 : k (some false, ()) w = .ok false w) (k2 : k (none, ()) w = .ok true w) : ∀ (is : List Nat), (∀ i ∈ is, i < 13) →
    ((forIn is ((none, ()) : Option Bool × Unit) fun i (_ : Option Bool × Unit) => (do
            if !(← Op.equalIn (d + 1) 5 (← part 5 (hv L) (i * 1)) (← part 5 (hv M) (i * 1))) then pure (ForInStep.done (some false, ())) else pure (ForInStep.yield (none, ())) : Sem (ForInStep (Option Bool × Unit)))).run Tryd.prog w).andThen k = .ok (is.all fun i => L.getD i 0 == M.getD i 0) w := by
  intro is
  induction is with
  | nil => intro _; simpa using k2
  | cons i is ih =>
    intro h
    have hi := h i (by simp)
    have ih' := ih (fun j hj => h j (by simp [hj]))
    have e : (Op.equalIn (d + 1) 5 (.int .u8 (L.getD i 0)) (.int .u8 (M.getD i 0))).run Tryd.prog w = .ok (L.getD i 0 == M.getD i 0) w := run_equalIn_int w d 5 .u8 .u8 _ _ Tryd.underlying5
    simp only [List.forIn_cons, Sem.run_bind, Nat.mul_one, part5 L hL i hi, part5 M hM i hi, Result.andThen_ok, e]
    by_cases hc : (L.getD i 0 == M.getD i 0) = true
    · simp only [hc, Bool.not_true, Bool.false_eq_true, if_false, Sem.run_pure, Result.andThen_ok, List.all_cons, Bool.true_and]
      simpa only [Sem.run_bind, Nat.mul_one] using ih'
    · have hc' : (L.getD i 0 == M.getD i 0) = false := by simpa using hc
      simp only [hc', Bool.not_false, if_true, Sem.run_pure, Result.andThen_ok, List.all_cons, Bool.false_and]
      exact k1

theorem all_eq (L M : List Int) (hL : L.length = 13) (hM : M.length = 13) : ((List.range' 0 13).all fun i => L.getD i 0 == M.getD i 0) = (L == M) := by
  rw [Bool.eq_iff_iff]
  simp only [List.all_eq_true, List.mem_range'_1, beq_iff_eq]
  constructor
  · intro h
    apply List.ext_getElem (by omega)
    intro k h1 h2
    have := h k ⟨by omega, by omega⟩
    simpa [List.getD, h1, h2] using this
  · rintro rfl k _; rfl

theorem eq26 (L M : List Int) (hL : L.length = 13) (hM : M.length = 13) (w : World) :
    (Op.equalIn 10000 23 (.agg (hv L)) (.agg (hv M))).run Tryd.prog w = .ok (L == M) w := by
  have z5 : (sizeOf 5).run Tryd.prog w = .ok 1 w := by kernel_rfl
  rw [show (10000 : Nat) = 9999 + 1 from rfl, Op.equalIn]
  simp only [Sem.run_bind, run_underlying Tryd.underlying23, Result.andThen_ok, z5]
  simp only [Std.Legacy.Range.forIn_eq_forIn_range', Std.Legacy.Range.size, Nat.sub_zero, Nat.add_sub_cancel, Nat.div_one]
  rw [← all_eq L M hL hM]
  exact loop26 L M hL hM w _ rfl rfl (List.range' 0 13) (fun i hi => by simp at hi; omega)


structure Later (W : World) where
  world : World
  below : Below W.heap.size W world

theorem Later.ne (W : World) : Nonempty (Later W) := ⟨⟨W, Below.refl _ _⟩⟩

theorem wp_region_later {P : Program} {id : Nat} {Q : Exit → Act → World → Prop} {a : Act} {w : World} {l : List Oper} (hm : P.follows .mixedOrders = true) (hB : Region.lexB .any l.toArray = true)
    (h : wpQuiet P l.toArray (fun w' => ∃ u : Later w, w' = u.world) (fun a' => ∀ w', (∃ u : Later w, w' = u.world) → Q .normal a' w') l a) : (Code.region id l.toArray true).wp P Q a w :=
  wp_region_quiet (C := fun w' => ∃ u : Later w, w' = u.world) hm hB ⟨⟨w.drew, (Below.refl _ _).drew⟩, rfl⟩ (by simpa using h)

theorem Calls.later_of {P : Program} {f : FuncId} {args : Array Value} {W : World} {u : Later W} {v : Value}
    (h : Calls P f args u.world fun e w' => e = .returned v ∧ Below u.world.heap.size u.world w') : Calls P f args u.world fun e w'' => e = .returned v ∧ ∃ u' : Later W, w'' = u'.world :=
  h.mono fun _ w1 ⟨he, hb⟩ => ⟨he, ⟨w1, u.below.trans (hb.mono u.below.size)⟩, rfl⟩

theorem q_load_row {P : Program} {ops : Array Oper} {C : World → Prop} {Q : Act → Prop} {rest : List Oper} {o : Oper} {a : Act} (hw : Region.wanted o (yielded ops a.tmps) = true) (ty : TypeId) (x : Operand) (ho : o.op = .load ty x)
    (g : Nat) (hx : a.eval x = .pointer (some ⟨g, 0, none⟩)) (t : TypeId) (cs : Array Value) (fr : Nat × Nat) (d : TypeDesc) (hg : ∀ w', C w' → w'.heap[g]? = some (.cells cs t fr))
    (hu : P.underlying ty = some d) (hd : (match d with | .struct _ | .array _ _ => true | _ => false) = true) (hi : (P.info? ty).map (·.size) = some cs.size)
    (h : wpQuiet P ops C Q rest (a.put o.dst (.agg cs))) : wpQuiet P ops C Q (o :: rest) a := by
  refine BigFrame.wpQuiet_want hw fun K hK => ⟨.agg cs, fun w hC => ?_, hK _ h⟩
  unfold Oper.quietAt execOp
  simp only [ho, hx, Instr.loadAt, Instr.sureAddr, Sem.run_bind, Sem.run_pure, Result.andThen_ok, run_loadVar_row w g t ty cs fr d (hg w hC) hu hd hi]
  exact ⟨rfl, rfl⟩

theorem later_block {W : World} {g : Nat} {o : Obj} (h : W.heap[g]? = some o) : ∀ w', (∃ u : Later W, w' = u.world) → w'.heap[g]? = some o := by
  rintro w' ⟨u, rfl⟩
  have hlt : g < W.heap.size := by
    rcases Array.getElem?_eq_some_iff.1 h with ⟨hl, _⟩
    exact hl
  rw [u.below.block g hlt, h]


theorem size26 (L : List Int) (hL : L.length = 13) : (Tryd.prog.info? 23).map (·.size) = some (hv L).size := by
  rw [hv_size, hL]; kernel_rfl

/-- A whole header is read out of its block. -/
theorem wl_load26 {ops : Array Oper} {rest : List Oper} {o : Oper} {a : Act} {w : World} {Q : Exit → Act → World → Prop} (hgd : o.guard = none) (x : Operand) (ho : o.op = .load 23 x)
    (g : Nat) (hx : a.eval x = .pointer (some ⟨g, 0, none⟩)) (L : List Int) (hg : w.heap[g]? = some (.cells (hv L) 23 (0, 0))) (hL : L.length = 13)
    (h : wpList Tryd.prog ops Q rest (a.put o.dst (.agg (hv L))) w) : wpList Tryd.prog ops Q (o :: rest) a w :=
  wpList_load_row hgd 23 x ho g hx 23 (hv L) (0, 0) _ hg Tryd.underlying23 rfl (size26 L hL) h

/-- A whole header is stored into a block that holds one. -/
theorem wl_store26 {ops : Array Oper} {rest : List Oper} {o : Oper} {a : Act} {w : World} {Q : Exit → Act → World → Prop} (hgd : o.guard = none) (x y : Operand) (ho : o.op = .store 23 x y)
    (g : Nat) (L : List Int) (hx : a.eval x = .pointer (some ⟨g, 0, none⟩)) (hy : a.eval y = .agg (hv L)) (old : Array Value) (hg : w.heap[g]? = some (.cells old 23 (0, 0))) (hold : old.size = 13) (hL : L.length = 13)
    (w' : World) (hw' : w.setRow g (hv L) = w')
    (h : wpList Tryd.prog ops Q rest (a.put o.dst undef) w') : wpList Tryd.prog ops Q (o :: rest) a w :=
  wpList_store_row hgd 23 x y ho g (hv L) hx hy 23 old hg (size26 L hL) (by rw [hv_size, hold, hL]) (hv_one L) (by rw [hw']; exact h)

theorem setRow_new (w : World) (old cs : Array Value) (t : TypeId) (g : Nat) (hg : g = w.heap.size) : (w.alloc (.cells old t)).setRow g cs = w.alloc (.cells cs t) := by
  subst hg
  simp only [World.setRow, World.alloc]
  congr 1
  apply Array.ext
  · simp
  · intro k h1 h2
    simp only [Array.getElem_modify, Array.getElem_push]
    by_cases hk : k < w.heap.size
    · simp [hk, show ¬ w.heap.size = k by omega]
    · have : w.heap.size = k := by simp at h2; omega
      simp [this]

theorem setRow_past (w : World) (o : Obj) (cs : Array Value) (g : Nat) (hg : g < w.heap.size) : (w.alloc o).setRow g cs = (w.setRow g cs).alloc o := by
  simp only [World.setRow, World.alloc]
  congr 1
  apply Array.ext
  · simp
  · intro k h1 h2
    simp only [Array.getElem_modify, Array.getElem_push, Array.size_modify]
    by_cases hk : k < w.heap.size
    · simp [hk]
    · simp [hk, show ¬ g = k by omega]

theorem setRow_drew (w : World) (g : Nat) (cs : Array Value) : w.drew.setRow g cs = (w.setRow g cs).drew := rfl
theorem setRow_drewN (w : World) (g n : Nat) (cs : Array Value) : (w.drewN n).setRow g cs = (w.setRow g cs).drewN n := rfl

theorem below_setRow {B : Nat} {a w : World} (h : Below B a w) {g : Nat} (hg : B ≤ g) (cs : Array Value) : Below B a (w.setRow g cs) :=
  ⟨h.os, h.tape, h.output, by simpa using h.size, fun k hk => (setRow_other w g k cs (by omega)).trans (h.block k hk)⟩

/-- The end of a function whose one result is a header in memory. -/
theorem ret26 {fn : Func} {R : Ending → World → Prop} {a : Act} {w : World} {p : Tmp} (hr : fn.results = #[.cell p 23]) (hd : a.defers = []) (g : Nat) (hp : a.tmps.getD p undef = .pointer (some ⟨g, 0, none⟩)) (L : List Int) (hL : L.length = 13)
    (hg : w.heap[g]? = some (.cells (hv L) 23 (0, 0))) (h : R (.returned (.agg (hv L))) w) : bodyPost Tryd.prog fn R .ret a w :=
  bodyPost_ret (v := .agg (hv L)) (results_cell_row hr _ _ g 23 (hv L) (0, 0) _ hp hg Tryd.underlying23 rfl (size26 L hL)) hd h

theorem heap_new (w : World) (o : Obj) (g : Nat) (hg : g = w.heap.size) : (w.alloc o).heap[g]? = some o := by rw [hg]; exact heap_alloc_new w o
theorem heap_past (w : World) (o x : Obj) (g : Nat) (h : w.heap[g]? = some x) : (w.alloc o).heap[g]? = some x := by
  rw [Below.heap_alloc w o g (Array.getElem?_eq_some_iff.1 h).1]; exact h

end Go.Proofs.YtnbklmmampdbfaaDoor
namespace Go.Proofs.YtnbklmmampdbfaaDoor
open Go Go.RowKit
set_option maxRecDepth 20000

/-- A type of elements that are structs or arrays, and the type of its slices. -/
structure El where
  elem : TypeId
  slice : TypeId
  size : Nat
  bytes : Nat
  zero : Array Value
/-- What the program says of it. -/
structure El.Ok (E : El) : Prop where
  hs : Tryd.prog.underlying E.slice = some (.slice E.elem)
  hu : ∃ d, Tryd.prog.underlying E.elem = some d ∧ (match d with | .struct _ | .array _ _ => true | _ => false) = true
  hi : (Tryd.prog.info? E.elem).map (fun i => (i.zero, i.size, i.bytes)) = some (some (.agg E.zero), E.size, E.bytes)
  hz : E.zero.size = E.size
  hp : 0 < E.size
  hb : E.bytes ≤ 100000
  hn : E.size ≤ 100000
theorem El.Ok.info {E : El} (H : E.Ok) : ∃ i, Tryd.prog.info? E.elem = some i ∧ i.zero = some (.agg E.zero) ∧ i.size = E.size ∧ i.bytes = E.bytes := by
  have h1 := H.hi
  cases h : Tryd.prog.info? E.elem with
  | none => rw [h] at h1; simp at h1
  | some i =>
    rw [h] at h1
    simp only [Option.map_some, Option.some.injEq, Prod.mk.injEq] at h1
    exact ⟨i, rfl, h1.1, h1.2.1, h1.2.2⟩
theorem El.Ok.cellsz {E : El} (H : E.Ok) (cs : Array Value) (hc : cs.size = E.size) : (Tryd.prog.info? E.elem).map (·.size) = some cs.size := by
  obtain ⟨i, h1, _, h2, _⟩ := H.info
  rw [h1, Option.map_some, h2, hc]

/-- A value that is laid in cells, one each. -/
def Fits (E : El) (cs : Array Value) : Prop := cs.size = E.size ∧ cs.all (·.oneCell') = true

/-- An element that lies within a block, from a place on. -/
theorem El.Ok.load {E : El} (H : E.Ok) (w : World) (g off : Nat) (cur : Array Value) (t : TypeId) (fr : Nat × Nat) (cs : Array Value) (hcs : cs.size = E.size) (hg : w.heap[g]? = some (.cells cur t fr)) (hc : ∀ j, j < E.size → cur[off + j]? = cs[j]?) :
    (loadVar E.elem ⟨g, off, none⟩).run Tryd.prog w = .ok (.agg cs) w := by
  have hl : (loadCells ⟨g, off, none⟩ cs.toList.length).run Tryd.prog w = .ok cs.toList.toArray w :=
    run_loadCells_list (P := Tryd.prog) w ⟨g, off, none⟩ cs.toList (fun j v hv => by
      have hadd : (⟨g, off, none⟩ : Addr).add j = ⟨g, off + j, none⟩ := by unfold Addr.add; split <;> simp_all
      have hj : j < E.size := by
        have := (List.getElem?_eq_some_iff.1 hv).1
        rw [Array.length_toList] at this
        omega
      rw [hadd, cell_of_row w g (off + j) cur t fr hg, hc j hj]
      simpa using hv)
  obtain ⟨i, hq, _, hs, _⟩ := H.info
  have hagg : (isAgg E.elem).run Tryd.prog w = .ok true w := by
    obtain ⟨d, hd, hm⟩ := H.hu
    unfold isAgg
    rw [Sem.run_bind, run_underlying hd w]
    revert hm
    cases d <;> simp [go_sem]
  rw [Array.length_toList, hcs, Array.toArray_toList] at hl
  simp [loadVar, Sem.run_bind, hagg, sizeOf, typeInfo, hq, hs, hl]
theorem wl_loadE {E : El} (H : E.Ok) {ops : Array Oper} {rest : List Oper} {o : Oper} {a : Act} {w : World} {Q : Exit → Act → World → Prop} (hw : Region.wanted o (yielded ops a.tmps) = true) (x : Operand) (ho : o.op = .load E.elem x)
    (g off : Nat) (hx : a.eval x = .pointer (some ⟨g, off, none⟩)) (cur : Array Value) (t : TypeId) (fr : Nat × Nat) (cs : Array Value) (hcs : cs.size = E.size) (hg : w.heap[g]? = some (.cells cur t fr)) (hc : ∀ j, j < E.size → cur[off + j]? = cs[j]?)
    (h : wpList Tryd.prog ops Q rest (a.put o.dst (.agg cs)) w) : wpList Tryd.prog ops Q (o :: rest) a w := by
  refine wpList_step fun K hK => ?_
  rw [if_pos hw]
  unfold Oper.wp execOp
  simp only [ho, hx, Instr.loadAt, Instr.sureAddr, Sem.run_bind, Sem.run_pure, Result.andThen_ok, H.load w g off cur t fr cs hcs hg hc]
  exact hK _ _ h
theorem own_cells (n : Nat) (cs : Array Value) : ∀ j, j < n → cs[0 + j]? = cs[j]? := fun j _ => by rw [Nat.zero_add]
theorem wl_storeE {E : El} (H : E.Ok) {ops : Array Oper} {rest : List Oper} {o : Oper} {a : Act} {w : World} {Q : Exit → Act → World → Prop} (hgd : o.guard = none) (x y : Operand) (ho : o.op = .store E.elem x y)
    (g : Nat) (cs : Array Value) (hf : Fits E cs) (hx : a.eval x = .pointer (some ⟨g, 0, none⟩)) (hy : a.eval y = .agg cs) (old : Array Value) (hg : w.heap[g]? = some (.cells old E.elem (0, 0))) (hold : old.size = E.size)
    (w' : World) (hw' : w.setRow g cs = w')
    (h : wpList Tryd.prog ops Q rest (a.put o.dst undef) w') : wpList Tryd.prog ops Q (o :: rest) a w :=
  wpList_store_row hgd E.elem x y ho g cs hx hy E.elem old hg (H.cellsz cs hf.1) (by rw [hf.1, hold]) hf.2 (by rw [hw']; exact h)
theorem qlE {E : El} (H : E.Ok) {C : World → Prop} {ops : Array Oper} {Q : Act → Prop} {rest : List Oper} {o : Oper} {a : Act} (hw : Region.wanted o (yielded ops a.tmps) = true) (x : Operand) (ho : o.op = .load E.elem x)
    (g off : Nat) (hx : a.eval x = .pointer (some ⟨g, off, none⟩)) (cur : Array Value) (t : TypeId) (fr : Nat × Nat) (cs : Array Value) (hcs : cs.size = E.size) (hg : ∀ w', C w' → w'.heap[g]? = some (.cells cur t fr)) (hc : ∀ j, j < E.size → cur[off + j]? = cs[j]?)
    (h : wpQuiet Tryd.prog ops C Q rest (a.put o.dst (.agg cs))) : wpQuiet Tryd.prog ops C Q (o :: rest) a := by
  refine BigFrame.wpQuiet_want hw fun K hK => ⟨.agg cs, fun w hC => ?_, hK _ h⟩
  unfold Oper.quietAt execOp
  simp only [ho, hx, Instr.loadAt, Instr.sureAddr, Sem.run_bind, Sem.run_pure, Result.andThen_ok, H.load w g off cur t fr cs hcs (hg w hC) hc]
  exact ⟨rfl, rfl⟩

/-- The cells of a list of elements. -/
def gcells {α : Type} (enc : α → Array Value) (C : List α) : List Value := C.flatMap fun c => (enc c).toList
theorem gcells_append {α : Type} (enc : α → Array Value) (C D : List α) : gcells enc (C ++ D) = gcells enc C ++ gcells enc D := by simp [gcells]
theorem gcells_one {α : Type} (enc : α → Array Value) (c : α) : gcells enc [c] = (enc c).toList := by simp [gcells]
theorem gcells_cons {α : Type} (enc : α → Array Value) (c : α) (C : List α) : gcells enc (c :: C) = (enc c).toList ++ gcells enc C := by simp [gcells]
theorem gcells_at {α : Type} (enc : α → Array Value) (n : Nat) : ∀ (C : List α), (∀ c ∈ C, (enc c).size = n) → ∀ (i : Nat) (hi : i < C.length) (j : Nat), j < n → (gcells enc C)[n * i + j]? = (enc C[i])[j]?
  | [], _, i, hi, _, _ => absurd hi (by simp)
  | c :: C, h, 0, _, j, hj => by
    have h1 := h c (by simp)
    rw [gcells_cons, Nat.mul_zero, Nat.zero_add, List.getElem?_append_left (by rw [Array.length_toList, h1]; exact hj)]
    simp
  | c :: C, h, i + 1, hi, j, hj => by
    have h1 := h c (by simp)
    have ih := gcells_at enc n C (fun d hd => h d (by simp [hd])) i (by simpa using hi) j hj
    rw [gcells_cons, show n * (i + 1) + j = n + (n * i + j) by rw [Nat.mul_add, Nat.mul_one]; omega, List.getElem?_append_right (by rw [Array.length_toList, h1]; omega), Array.length_toList, h1, Nat.add_sub_cancel_left]
    simpa using ih

theorem gfold_get (off : Nat) : ∀ (xs : List Value) (n : Nat) (cells : Array Value) (k : Nat), off + n + xs.length ≤ cells.size →
    ((xs.zipIdx n).foldl (fun cs (x : Value × Nat) => cs.setIfInBounds (off + x.2) x.1) cells)[k]? = if off + n ≤ k ∧ k < off + n + xs.length then xs[k - (off + n)]? else cells[k]?
  | [], n, cells, k, _ => by
    simp only [List.zipIdx_nil, List.foldl_nil, List.length_nil, Nat.add_zero]
    rw [if_neg (by omega)]
  | x :: xs, n, cells, k, h => by
    simp only [List.length_cons] at h
    rw [List.zipIdx_cons, List.foldl_cons, gfold_get off xs (n + 1) _ k (by simp; omega)]
    simp only [List.length_cons]
    by_cases h1 : off + (n + 1) ≤ k ∧ k < off + (n + 1) + xs.length
    · rw [if_pos h1, if_pos (by omega), show k - (off + n) = (k - (off + (n + 1))) + 1 by omega, List.getElem?_cons_succ]
    · rw [if_neg h1]
      by_cases h2 : k = off + n
      · subst h2
        rw [if_pos (by omega), Nat.sub_self, List.getElem?_cons_zero, Array.getElem?_setIfInBounds_self_of_lt (by omega)]
      · rw [if_neg (by omega), Array.getElem?_setIfInBounds_ne (by omega)]
theorem gfold_all (xs cells : Array Value) (h : xs.size = cells.size) : xs.zipIdx.foldl (fun cs (x : Value × Nat) => cs.setIfInBounds (0 + x.2) x.1) cells = xs := by
  have e : xs.zipIdx.foldl (fun cs (x : Value × Nat) => cs.setIfInBounds (0 + x.2) x.1) cells = (xs.toList.zipIdx 0).foldl (fun cs (x : Value × Nat) => cs.setIfInBounds (0 + x.2) x.1) cells := by
    rw [← Array.foldl_toList]; simp
  rw [e]
  apply Array.ext_getElem?
  intro k
  rw [gfold_get 0 xs.toList 0 cells k (by simp; omega)]
  by_cases hk : k < xs.size
  · rw [if_pos (by simp; omega)]; simp
  · rw [if_neg (by simp; omega), Array.getElem?_eq_none (by omega), Array.getElem?_eq_none (by omega)]

set_option maxRecDepth 20000 in
/-- A slice of one element. -/
theorem wl_buildE {E : El} (H : E.Ok) {ops : Array Oper} {rest : List Oper} {o : Oper} {a : Act} {w : World} {Q : Exit → Act → World → Prop} (hg : o.guard = none) (x : Operand) (ho : o.op = .buildSlice E.slice 1 #[(0, x)]) (cs : Array Value) (hcs : cs.size = E.size) (hx : a.eval x = .agg cs)
    (h : wpList Tryd.prog ops Q rest (a.put o.dst (.slice (some ⟨w.heap.size, 0, none⟩) 1 1)) (w.alloc (.cells cs E.elem))) : wpList Tryd.prog ops Q (o :: rest) a w := by
  obtain ⟨ie, hie, hz, hs, _⟩ := H.info
  refine wpList_buildSlice hg E.slice E.elem 1 _ ho cs ie (.agg E.zero) H.hs hie hz (by rw [hs]; have := H.hn; omega) (by rw [hs]; have := H.hp; omega) ?_ h
  simp only [List.map_toArray, List.map_cons, List.map_nil, hx, Instr.fill, hs, Nat.zero_mul, Value.cells, hcs]
  rw [if_neg (by simp)]
  congr 1
  exact gfold_all _ _ (by rw [hcs]; simp)

/-- One element appended to one's own row of them, and where the new row lies. -/
theorem wl_appendE {E : El} (H : E.Ok) {α : Type} (enc : α → Array Value) {ops : Array Oper} {rest : List Oper} {o : Oper} {a : Act} {w : World} {Q : Exit → Act → World → Prop} (hgd : o.guard = none) (s x : Operand) (ho : o.op = .call { callee := .builtin .append, args := #[s, x], argTypes := #[E.slice, E.slice] })
    (base : Nat) (v : Value) (C : List α) (c : α) (hf : Fits E (enc c)) (hs : a.eval s = v) (hown : w.ownsRow base E.elem E.size v C.length (gcells enc C)) (g cap : Nat) (hx : a.eval x = .slice (some ⟨g, 0, none⟩) 1 cap) (hg : w.heap[g]? = some (.cells (enc c) E.elem (0, 0)))
    (hn : C.length ≤ 1000000) (hbase : base ≤ w.heap.size)
    (h : ∀ v' w', w'.ownsRow base E.elem E.size v' (C ++ [c]).length (gcells enc (C ++ [c])) → w.grownBy w' v.ownBlock → (v'.ownBlock = v.ownBlock ∨ v'.ownBlock = some w.heap.size) → wpList Tryd.prog ops Q rest (a.put o.dst v') w') : wpList Tryd.prog ops Q (o :: rest) a w := by
  obtain ⟨i0, hi, hz0, hz1, hz2⟩ := H.info
  have hb := H.hb
  refine wpList_append_own_at _ hgd s x E.slice ho base E.elem i0 (.agg E.zero) E.size E.bytes H.hs hi hz0 hz1 hz2 (by simpa [Value.cells] using H.hz) H.hp v _ _ hs hown ⟨g, 0, none⟩ 1 cap (enc c).toList hx (by rw [Array.length_toList, hf.1, Nat.one_mul]) (fun j y hy => ?_) (fun u hu => ?_) (by unfold maxLen; omega) ?_ hbase ?_
  · have hadd : (⟨g, 0, none⟩ : Addr).add j = ⟨g, j, none⟩ := by unfold Addr.add; split <;> simp_all
    rw [hadd, cell_of_row w g j _ _ _ hg, ← hy]
    simp
  · exact (Array.all_eq_true_iff_forall_mem.1 hf.2) u (by simpa using hu)
  · exact Nat.le_trans (Nat.mul_le_mul (show C.length + 1 ≤ 1000001 by omega) hb) (by decide)
  · intro v' w' h5 h6 _ h7
    refine h v' w' ?_ h6 h7
    rw [List.length_append, gcells_append, gcells_one]; exact h5

/-- A slice, wherever it lies, whose elements are these. -/
def GSl {α : Type} (E : El) (enc : α → Array Value) (w : World) (v : Value) (C : List α) : Prop :=
  ∃ (o : Option Addr) (cap : Nat), v = .slice o C.length cap ∧ C.length ≤ cap ∧ cap ≤ maxLen ∧ ∀ (i : Nat) (hi : i < C.length), ∃ g off cur t fr, o = some ⟨g, off, none⟩ ∧ w.heap[g]? = some (.cells cur t fr) ∧ ∀ j, j < E.size → cur[off + i * E.size + j]? = (enc C[i])[j]?
theorem GSl.below {α : Type} {E : El} {enc : α → Array Value} {w w' : World} {v : Value} {C : List α} (h : GSl E enc w v C) (hb : Below w.heap.size w w') : GSl E enc w' v C := by
  obtain ⟨o, cap, rfl, h1, h2, h3⟩ := h
  refine ⟨o, cap, rfl, h1, h2, fun i hi => ?_⟩
  obtain ⟨g, off, cur, t, fr, h4, h5, h6⟩ := h3 i hi
  exact ⟨g, off, cur, t, fr, h4, (hb.block g (Array.getElem?_eq_some_iff.1 h5).1).trans h5, h6⟩
theorem GSl.slice {α : Type} {E : El} {enc : α → Array Value} {w : World} {v : Value} {C : List α} (h : GSl E enc w v C) : ∃ (o : Option Addr) (cap : Nat), v = .slice o C.length cap ∧ C.length ≤ cap ∧ cap ≤ maxLen := by
  obtain ⟨o, cap, h1, h2, h3, _⟩ := h
  exact ⟨o, cap, h1, h2, h3⟩
theorem GSl.at {α : Type} {E : El} {enc : α → Array Value} {w : World} {o : Option Addr} {n cap : Nat} {C : List α} (h : GSl E enc w (.slice o n cap) C) (k : Nat) (hk : k < n) :
    ∃ g off cur t fr, ∃ c : α, o = some ⟨g, off, none⟩ ∧ w.heap[g]? = some (.cells cur t fr) ∧ (∀ j, j < E.size → cur[off + k * E.size + j]? = (enc c)[j]?) ∧ C[k]? = some c := by
  obtain ⟨o', cap', h1, _, _, h3⟩ := h
  simp only [Value.slice.injEq] at h1
  obtain ⟨rfl, rfl, rfl⟩ := h1
  obtain ⟨g, off, cur, t, fr, h4, h5, h6⟩ := h3 k hk
  exact ⟨g, off, cur, t, fr, C[k], h4, h5, h6, List.getElem?_eq_getElem hk⟩
theorem gsl_of {α : Type} {E : El} {enc : α → Array Value} {w : World} {B : Nat} {v : Value} {C : List α} (h : w.ownsRow B E.elem E.size v C.length (gcells enc C)) (hC : ∀ c ∈ C, (enc c).size = E.size) : GSl E enc w v C := by
  obtain ⟨h1, ⟨rfl, h2⟩ | ⟨g, cap, cur, rfl, hB, hcur, h5, h6, _, h4⟩⟩ := h
  · exact ⟨none, 0, by rw [h2], by omega, Nat.zero_le _, fun i hi => by omega⟩
  · refine ⟨_, cap, rfl, h5, h6, fun i hi => ⟨g, 0, cur, _, _, rfl, hcur, fun j hj => ?_⟩⟩
    have hlt : E.size * i + j < C.length * E.size := by
      have : E.size * (i + 1) ≤ E.size * C.length := Nat.mul_le_mul_left _ hi
      rw [Nat.mul_add, Nat.mul_one] at this
      rw [Nat.mul_comm C.length]
      omega
    rw [← gcells_at enc E.size C hC i hi j hj, ← h4, List.getElem?_take_of_lt hlt, Nat.zero_add, Nat.mul_comm]
    simp
theorem gsl_nil {α : Type} (E : El) (enc : α → Array Value) (w : World) : GSl E enc w (.slice none 0 0) [] := ⟨none, 0, rfl, Nat.le_refl _, Nat.zero_le _, fun i hi => absurd hi (by simp)⟩
theorem gown_slice {w : World} {B : Nat} {e : TypeId} {s : Nat} {v : Value} {n : Nat} {xs : List Value} (h : w.ownsRow B e s v n xs) : ∃ o cap, v = .slice o n cap := by
  obtain ⟨_, ⟨rfl, rfl⟩ | ⟨g, cap, cur, rfl, _⟩⟩ := h
  · exact ⟨none, 0, rfl⟩
  · exact ⟨_, cap, rfl⟩
theorem gown_below {w w' : World} {B : Nat} {e : TypeId} {s : Nat} {v : Value} {n : Nat} {xs : List Value} (h : w.ownsRow B e s v n xs) (hb : Below w.heap.size w w') : w'.ownsRow B e s v n xs := by
  obtain ⟨h1, h2 | ⟨g, cap, cur, rfl, hB, hcur, h3⟩⟩ := h
  · exact ⟨h1, .inl h2⟩
  · exact ⟨h1, .inr ⟨g, cap, cur, rfl, hB, (hb.block g (Array.getElem?_eq_some_iff.1 hcur).1).trans hcur, h3⟩⟩
theorem gown_ne {w : World} {B : Nat} {e : TypeId} {s : Nat} {v : Value} {n : Nat} {xs : List Value} (h : w.ownsRow B e s v n xs) {g : Nat} (hg : w.heap.size ≤ g) : v.ownBlock ≠ some g := fun hq => by
  have := (h.lt g hq).2
  omega
theorem gown_base {w : World} {B B' : Nat} {e : TypeId} {s : Nat} {v : Value} {n : Nat} {xs : List Value} (h : w.ownsRow B e s v n xs) (hB' : B' ≤ B) : w.ownsRow B' e s v n xs := by
  obtain ⟨h1, h2 | ⟨g', cap, cur, rfl, hB, h3⟩⟩ := h
  · exact ⟨h1, .inl h2⟩
  · exact ⟨h1, .inr ⟨g', cap, cur, rfl, by omega, h3⟩⟩
end Go.Proofs.YtnbklmmampdbfaaDoor
namespace Go.Proofs.YtnbklmmampdbfaaDoor
open Go.ChangeShapes Go.WideShapes Go.ChangeAt Go.WideMaps Go.WideElems Go.RowKit
set_option maxRecDepth 20000

theorem El.Ok.cellsOf {E : El} (H : E.Ok) : Tryd.prog.cellsOf E.elem = E.size := by
  obtain ⟨i, h1, _, h2, _⟩ := H.info
  simp [Program.cellsOf, h1, h2]

/-- A slice that comes in, of elements that are opened one by one. -/
theorem open_any {E : El} (HE : E.Ok) {α : Type} [Inhabited α] (row : α → Array Value) (hrow : ∀ a, (row a).size = E.size) (Q : α → Prop) {H : Type} {enc : TypeId × Value → H} {W : World} {base : Nat} {spare : Nat → Bool} {held : Bool}
    (elem : ∀ (fuel : Nat) (cs : List Value) (x : DataW H × List MemPlace), cs.length = E.size → DataW.trod enc Tryd.prog W base spare held fuel E.elem cs = some x → ∃ a, cs = (row a).toList ∧ Q a)
    {fuel : Nat} {v : Value} {x : DataW H × List MemPlace} (hf : DataW.trod enc Tryd.prog W base spare held fuel E.slice [v] = some x) : ∃ C : List α, GSl E row W v C ∧ ∀ c ∈ C, Q c := by
  have hp := HE.hp
  rcases Deep.open_slice HE.hs hf with ⟨h0, _⟩ | ⟨a, len, cap, m, n, D, Pl, h0, hb, hl, hm, hmm, _, hx⟩
  · obtain rfl : v = .slice none 0 0 := by simpa using h0
    exact ⟨[], gsl_nil E row W, fun c hc => absurd hc (by simp)⟩
  · obtain rfl : v = .slice (some a) len cap := by simpa using h0
    rw [HE.cellsOf] at hx
    have hlm : len ≤ m := by rw [hmm]; split <;> omega
    have each : ∀ i, i < len → ∃ c : α, Q c ∧ ∀ j, j < E.size → W.cell? (a.add (i * E.size + j)) = (row c)[j]? := fun i hi => by
      obtain ⟨cs', h1, h2⟩ := hx i (by omega)
      obtain ⟨_, hlen, hcell⟩ := World.cells?_some h1
      obtain ⟨c, h3, h4⟩ := elem _ cs' _ hlen h2
      refine ⟨c, h4, fun j hj => ?_⟩
      have := hcell j hj
      rw [Deep.add_add] at this
      rw [this, h3]
      simp
    obtain ⟨f, hf⟩ := Deep.choose_lt each
    refine ⟨(List.range len).map f, ⟨some a, cap, by simp, by simpa using hl, hm, fun i hi => ?_⟩, fun c hc => ?_⟩
    · have hi' : i < len := by simpa using hi
      have h1 := (hf i hi').2
      obtain ⟨g, off, sp⟩ := a
      have hj : ∀ j, j < E.size → ∃ cur t fr, W.heap[g]? = some (.cells cur t fr) ∧ cur[off + i * E.size + j]? = (row (f i))[j]? ∧ (i * E.size + j = 0 → sp = none) := fun j hj => by
        have h2 := h1 j hj
        obtain ⟨y, hy⟩ : ∃ y, (row (f i))[j]? = some y := ⟨_, Array.getElem?_eq_getElem (by rw [hrow]; exact hj)⟩
        rw [hy] at h2 ⊢
        unfold World.cell? at h2
        split at h2
        · rename_i cur t fr hq
          have hbk : (Addr.add ⟨g, off, sp⟩ (i * E.size + j)).block = g := by unfold Addr.add; split <;> rfl
          have hof : (Addr.add ⟨g, off, sp⟩ (i * E.size + j)).off = off + i * E.size + j := by unfold Addr.add; split <;> simp_all [Nat.add_assoc]
          rw [hbk] at hq
          rw [hof] at h2
          split at h2
          · cases h2
          · rename_i hsp
            refine ⟨cur, t, fr, hq, h2, fun h0 => ?_⟩
            unfold Addr.add at hsp
            rw [if_pos h0] at hsp
            simpa using hsp
        · cases h2
      have hsp : sp = none := by
        obtain ⟨cur, t, fr, h2, h3, h4⟩ := hj 0 hp
        by_cases hi0 : i = 0
        · exact h4 (by rw [hi0]; simp)
        · have h5 := (hf 0 (by omega)).2 0 hp
          obtain ⟨y, hy⟩ : ∃ y, (row (f 0))[0]? = some y := ⟨_, Array.getElem?_eq_getElem (by rw [hrow]; exact hp)⟩
          rw [hy] at h5
          unfold World.cell? at h5
          split at h5
          · split at h5
            · cases h5
            · rename_i hs
              simpa [Addr.add] using hs
          · cases h5
      subst hsp
      obtain ⟨cur, t, fr, h2, _, _⟩ := hj 0 hp
      refine ⟨g, off, cur, t, fr, rfl, h2, fun j hjl => ?_⟩
      obtain ⟨cur', t', fr', h3, h4, _⟩ := hj j hjl
      rw [h2] at h3
      obtain ⟨rfl, rfl, rfl⟩ : cur = cur' ∧ t = t' ∧ fr = fr' := by simpa using h3
      rw [h4]
      simp
    · rw [List.mem_map] at hc
      obtain ⟨i, hi, rfl⟩ := hc
      exact (hf i (by simpa using hi)).1

/-- A list whose elements hold lists of their own: each row with the value of its inner list. -/
def NSl {α : Type} (E : El) (row : α → Value → Array Value) (R : World → α → Value → Prop) (w : World) (v : Value) (C : List α) : Prop :=
  ∃ P : List (α × Value), P.map (·.1) = C ∧ GSl E (fun p => row p.1 p.2) w v P ∧ ∀ p ∈ P, R w p.1 p.2
theorem NSl.below {α : Type} {E : El} {row : α → Value → Array Value} {R : World → α → Value → Prop} (hR : ∀ w w' a v, Below w.heap.size w w' → R w a v → R w' a v) {w w' : World} {v : Value} {C : List α} (h : NSl E row R w v C) (hb : Below w.heap.size w w') : NSl E row R w' v C := by
  obtain ⟨P, h1, h2, h3⟩ := h
  exact ⟨P, h1, h2.below hb, fun p hp => hR w w' _ _ hb (h3 p hp)⟩
theorem NSl.slice {α : Type} {E : El} {row : α → Value → Array Value} {R : World → α → Value → Prop} {w : World} {v : Value} {C : List α} (h : NSl E row R w v C) : ∃ (o : Option Addr) (cap : Nat), v = .slice o C.length cap ∧ C.length ≤ cap ∧ cap ≤ maxLen := by
  obtain ⟨P, h1, h2, _⟩ := h
  obtain ⟨o, cap, e, h4, h5⟩ := h2.slice
  have hl : P.length = C.length := by rw [← h1, List.length_map]
  rw [hl] at e h4
  exact ⟨o, cap, e, h4, h5⟩
theorem NSl.at {α : Type} {E : El} {row : α → Value → Array Value} {R : World → α → Value → Prop} {w : World} {o : Option Addr} {n cap : Nat} {C : List α} (h : NSl E row R w (.slice o n cap) C) (k : Nat) (hk : k < n) :
    ∃ g off cur t fr, ∃ (c : α) (u : Value), o = some ⟨g, off, none⟩ ∧ w.heap[g]? = some (.cells cur t fr) ∧ (∀ j, j < E.size → cur[off + k * E.size + j]? = (row c u)[j]?) ∧ C[k]? = some c ∧ R w c u := by
  obtain ⟨P, h1, h2, h3⟩ := h
  obtain ⟨g, off, cur, t, fr, c, e1, e2, e3, e4⟩ := h2.at k hk
  exact ⟨g, off, cur, t, fr, c.1, c.2, e1, e2, e3, by rw [← h1, List.getElem?_map, e4]; rfl, h3 c (List.mem_of_getElem? e4)⟩
/-- The same of one's own row. -/
def NOwn {α : Type} (E : El) (row : α → Value → Array Value) (R : World → α → Value → Prop) (w : World) (B : Nat) (v : Value) (C : List α) : Prop :=
  ∃ P : List (α × Value), P.map (·.1) = C ∧ w.ownsRow B E.elem E.size v P.length (gcells (fun p : α × Value => row p.1 p.2) P) ∧ ∀ p ∈ P, R w p.1 p.2
theorem NOwn.sl {α : Type} {E : El} {row : α → Value → Array Value} {R : World → α → Value → Prop} (hrow : ∀ a u, (row a u).size = E.size) {w : World} {B : Nat} {v : Value} {C : List α} (h : NOwn E row R w B v C) : NSl E row R w v C := by
  obtain ⟨P, h1, h2, h3⟩ := h
  exact ⟨P, h1, gsl_of h2 fun c _ => hrow c.1 c.2, h3⟩
theorem NOwn.nil {α : Type} (E : El) (row : α → Value → Array Value) (R : World → α → Value → Prop) (w : World) (B : Nat) : NOwn E row R w B (.slice none 0 0) [] :=
  ⟨[], rfl, World.ownsRow_nil _ _ _ _, fun p hp => by simp at hp⟩
theorem NOwn.below {α : Type} {E : El} {row : α → Value → Array Value} {R : World → α → Value → Prop} (hR : ∀ w w' a v, Below w.heap.size w w' → R w a v → R w' a v) {w w' : World} {B : Nat} {v : Value} {C : List α} (h : NOwn E row R w B v C) (hb : Below w.heap.size w w') : NOwn E row R w' B v C := by
  obtain ⟨P, h1, h2, h3⟩ := h
  exact ⟨P, h1, gown_below h2 hb, fun p hp => hR w w' _ _ hb (h3 p hp)⟩
/-- Rows of two types lie apart. -/
theorem own_apart {w : World} {B B' : Nat} {e e' : TypeId} {s s' : Nat} {v u : Value} {n m : Nat} {xs ys : List Value} (h : w.ownsRow B e s v n xs) (h' : w.ownsRow B' e' s' u m ys) (hne : e ≠ e') : ∀ g, v.ownBlock = some g → u.ownBlock ≠ some g := by
  intro g hg hu
  obtain ⟨_, ⟨rfl, _⟩ | ⟨g1, cap, cur, rfl, _, h1, _⟩⟩ := h
  · simp [Value.ownBlock] at hg
  · obtain ⟨_, ⟨rfl, _⟩ | ⟨g2, cap', cur', rfl, _, h2, _⟩⟩ := h'
    · simp [Value.ownBlock] at hu
    · simp only [Value.ownBlock, Option.some.injEq] at hg hu
      subst hg
      subst hu
      rw [h1] at h2
      simp only [Option.some.injEq, Obj.cells.injEq] at h2
      exact hne h2.2.1
/-- A row stays as it is while another one grows. -/
theorem own_grown {w w' : World} {b : Option Nat} (hgr : w.grownBy w' b) {B : Nat} {e : TypeId} {s : Nat} {u : Value} {m : Nat} {ys : List Value} (h : w.ownsRow B e s u m ys) (hne : ∀ g, b = some g → u.ownBlock ≠ some g) : w'.ownsRow B e s u m ys := by
  obtain ⟨h0, h1 | ⟨g, cap, cur, rfl, hB, hcur, h3⟩⟩ := h
  · exact ⟨h0, .inl h1⟩
  · refine ⟨h0, .inr ⟨g, cap, cur, rfl, hB, ?_, h3⟩⟩
    rw [hgr.block g (Array.getElem?_eq_some_iff.1 hcur).1 (fun hq => hne g hq.symm rfl)]
    exact hcur
theorem NOwn.grown {α : Type} {E : El} {row : α → Value → Array Value} {R : World → α → Value → Prop} {w w' : World} {b : Option Nat} (hgr : w.grownBy w' b) {B : Nat} {v : Value} {C : List α} (h : NOwn E row R w B v C) (hne : ∀ g, b = some g → v.ownBlock ≠ some g) (hR : ∀ a u, R w a u → R w' a u) : NOwn E row R w' B v C := by
  obtain ⟨P, h1, h2, h3⟩ := h
  exact ⟨P, h1, own_grown hgr h2 hne, fun p hp => hR _ _ (h3 p hp)⟩
theorem NOwn.snoc {α : Type} {E : El} {row : α → Value → Array Value} {R : World → α → Value → Prop} {w' : World} {B : Nat} {v' : Value} {C : List α} {c : α} {u : Value} {P : List (α × Value)} (h1 : P.map (·.1) = C) (h2 : w'.ownsRow B E.elem E.size v' (P ++ [(c, u)]).length (gcells (fun p : α × Value => row p.1 p.2) (P ++ [(c, u)])))
    (h3 : ∀ p ∈ P, R w' p.1 p.2) (h4 : R w' c u) : NOwn E row R w' B v' (C ++ [c]) :=
  ⟨P ++ [(c, u)], by rw [List.map_append, h1]; rfl, h2, fun p hp => by
    rcases List.mem_append.1 hp with hp | hp
    · exact h3 p hp
    · obtain rfl : p = (c, u) := by simpa using hp
      exact h4⟩
end Go.Proofs.YtnbklmmampdbfaaDoor
namespace Go.Proofs.YtnbklmmampdbfaaDoor
open Go
set_option maxRecDepth 20000

/-- A token. -/
structure Tok where
  kind : Nat
  pos : Nat
  text : List UInt8
  num : Nat

def isLet (c : UInt8) : Bool := decide (97 ≤ c.toNat) && decide (c.toNat ≤ 122)
def isDig (c : UInt8) : Bool := decide (48 ≤ c.toNat) && decide (c.toNat ≤ 57)
def isBlank (c : UInt8) : Bool := c == 9 || c == 13 || c == 32
def notEnd (c : UInt8) : Bool := c != 10
/-- Digits as a number. -/
def val (D : List UInt8) : Nat := D.foldl (fun n c => n * 10 + (c.toNat - 48)) 0
/-- Digits as a number that may be. -/
def numOf (D : List UInt8) : Option Nat := if decide (4294967295 < val D) || (decide (1 < D.length) && D.head? == some 48) then none else some (val D)

/-- What begins at a place: nothing, a token, or something wrong. -/
abbrev Lx := Except Nat (Option (Nat × List UInt8 × Nat))
abbrev Lx.none : Lx := Except.ok Option.none
abbrev Lx.tok (k : Nat) (t : List UInt8) (v : Nat) : Lx := Except.ok (some (k, t, v))
abbrev Lx.err (e : Nat) : Lx := Except.error e

/-- What begins with a byte, and how many more bytes it has. -/
def lexeme (c : UInt8) (r : List UInt8) : Lx × Nat :=
  if isBlank c then (Lx.none, 0)
  else if isLet c then (Lx.tok 1 (c :: r.takeWhile isLet) 0, (r.takeWhile isLet).length)
  else if isDig c then (match numOf (c :: r.takeWhile isDig) with | some n => Lx.tok 2 [] n | Option.none => Lx.err 7, (r.takeWhile isDig).length)
  else if c == 46 then (Lx.tok 3 [] 0, 0)
  else if c == 47 then (Lx.tok 4 [] 0, 0)
  else if c == 45 then (if r.head? == some 62 then (Lx.tok 6 [] 0, 1) else (Lx.tok 5 [] 0, 0))
  else if c == 10 then (Lx.tok 7 [] 0, 0)
  else if c == 35 then (Lx.none, (r.takeWhile notEnd).length)
  else (Lx.err 6, 0)

/-- Tokens ahead of what comes to be. -/
def glue (P : List Tok) : Except (Nat × Nat) (List Tok) → Except (Nat × Nat) (List Tok)
  | .ok l => .ok (P ++ l)
  | .error x => .error x
theorem glue_glue (P Q : List Tok) (x : Except (Nat × Nat) (List Tok)) : glue P (glue Q x) = glue (P ++ Q) x := by
  cases x <;> simp [glue]
theorem glue_nil (x : Except (Nat × Nat) (List Tok)) : glue [] x = x := by cases x <;> rfl

/-- The tokens of a text that begins at a place, so many steps at most. -/
def lexF : Nat → Nat → List UInt8 → Except (Nat × Nat) (List Tok)
  | 0, _, _ => .ok []
  | _ + 1, _, [] => .ok []
  | f + 1, p, c :: r => match lexeme c r with
    | (.ok Option.none, n) => lexF f (p + 1 + n) (r.drop n)
    | (.ok (some (k, t, v)), n) => glue [⟨k, p, t, v⟩] (lexF f (p + 1 + n) (r.drop n))
    | (.error e, _) => .error (e, p)
/-- The tokens of a text that begins at a place. -/
def lexW (p : Nat) (S : List UInt8) : Except (Nat × Nat) (List Tok) := lexF S.length p S
theorem lexF_more : ∀ (f g p : Nat) (S : List UInt8), S.length ≤ f → S.length ≤ g → lexF f p S = lexF g p S
  | 0, 0, _, _, _, _ => rfl
  | 0, g + 1, p, S, hf, _ => by
    obtain rfl : S = [] := List.eq_nil_of_length_eq_zero (by omega)
    rfl
  | f + 1, 0, p, S, _, hg => by
    obtain rfl : S = [] := List.eq_nil_of_length_eq_zero (by omega)
    rfl
  | f + 1, g + 1, p, [], _, _ => rfl
  | f + 1, g + 1, p, c :: r, hf, hg => by
    have hl : ∀ n, (r.drop n).length ≤ f ∧ (r.drop n).length ≤ g := fun n => by simp at hf hg ⊢; omega
    have ih : ∀ q n, lexF f q (r.drop n) = lexF g q (r.drop n) := fun q n => lexF_more f g q (r.drop n) (hl n).1 (hl n).2
    simp only [lexF, ih]

theorem lexW_nil (p : Nat) : lexW p [] = .ok [] := rfl
theorem lexW_none {p : Nat} {c : UInt8} {r : List UInt8} {n : Nat} (h : lexeme c r = (Lx.none, n)) : lexW p (c :: r) = lexW (p + 1 + n) (r.drop n) := by
  unfold lexW
  rw [List.length_cons, lexF, h]
  exact lexF_more _ _ _ _ (by simp) (Nat.le_refl _)
theorem lexW_tok {p : Nat} {c : UInt8} {r : List UInt8} {n k v : Nat} {t : List UInt8} (h : lexeme c r = (Lx.tok k t v, n)) : lexW p (c :: r) = glue [⟨k, p, t, v⟩] (lexW (p + 1 + n) (r.drop n)) := by
  unfold lexW
  rw [List.length_cons, lexF, h]
  exact congrArg (glue _) (lexF_more _ _ _ _ (by simp) (Nat.le_refl _))
theorem lexW_err {p : Nat} {c : UInt8} {r : List UInt8} {n e : Nat} (h : lexeme c r = (Lx.err e, n)) : lexW p (c :: r) = .error (e, p) := by
  unfold lexW
  rw [List.length_cons, lexF, h]

/-- An induction along the text. -/
theorem lexW_induct (Q : Nat → List UInt8 → Prop) (h0 : ∀ p, Q p []) (h1 : ∀ p c r n, lexeme c r = (Lx.none, n) → Q (p + 1 + n) (r.drop n) → Q p (c :: r))
    (h2 : ∀ p c r n k t v, lexeme c r = (Lx.tok k t v, n) → Q (p + 1 + n) (r.drop n) → Q p (c :: r)) (h3 : ∀ p c r n e, lexeme c r = (Lx.err e, n) → Q p (c :: r)) : ∀ S p, Q p S := by
  have key : ∀ d (S : List UInt8) p, S.length ≤ d → Q p S := by
    intro d
    induction d with
    | zero => intro S p hS; obtain rfl : S = [] := List.eq_nil_of_length_eq_zero (by omega); exact h0 p
    | succ d ih =>
      intro S p hS
      cases S with
      | nil => exact h0 p
      | cons c r =>
        have hl : ∀ n, (r.drop n).length ≤ d := fun n => by simp at hS ⊢; omega
        rcases hx : lexeme c r with ⟨x, n⟩
        rcases x with e | _ | ⟨k, t, v⟩
        · exact h3 p c r n e hx
        · exact h1 p c r n hx (ih _ _ (hl n))
        · exact h2 p c r n k t v hx (ih _ _ (hl n))
  exact fun S p => key _ S p (Nat.le_refl _)

theorem takeWhile_le (q : UInt8 → Bool) (r : List UInt8) : (r.takeWhile q).length ≤ r.length := (List.takeWhile_prefix q).length_le
theorem takeWhile_take (q : UInt8 → Bool) : ∀ r : List UInt8, r.take (r.takeWhile q).length = r.takeWhile q
  | [] => rfl
  | c :: r => by
    rw [List.takeWhile_cons]
    cases h : q c
    · simp
    · simp [takeWhile_take q r]
/-- No lexeme has more bytes than there are. -/
theorem lexeme_le (c : UInt8) (r : List UInt8) : (lexeme c r).2 ≤ r.length := by
  unfold lexeme
  have h1 := takeWhile_le isLet r
  have h2 := takeWhile_le isDig r
  have h3 := takeWhile_le notEnd r
  repeat' split
  all_goals first | exact Nat.zero_le _ | exact h1 | exact h2 | exact h3 | skip
  rename_i h
  cases r with
  | nil => simp at h
  | cons d r => simp
theorem lexeme_word {c : UInt8} {r : List UInt8} {n k v : Nat} {t : List UInt8} (h : lexeme c r = (Lx.tok k t v, n)) (hk : k = 1) : t = c :: r.take n := by
  unfold lexeme at h
  repeat' split at h
  all_goals simp only [Prod.mk.injEq, Except.ok.injEq, Option.some.injEq, reduceCtorEq, false_and] at h
  · obtain ⟨⟨_, rfl, _⟩, rfl⟩ := h
    rw [takeWhile_take]
  all_goals try omega
  all_goals
    split at h
    · simp only [Except.ok.injEq, Option.some.injEq, Prod.mk.injEq] at h; omega
    · simp at h

/-- Tokens lie within the text, and rise; a word stands where it is told to. -/
theorem lexW_places : ∀ (S : List UInt8) (p : Nat) (l : List Tok), lexW p S = .ok l →
    (∀ (i : Nat) (t : Tok), l[i]? = some t → p ≤ t.pos ∧ t.pos < p + S.length ∧ (t.kind = 1 → t.pos + t.text.length ≤ p + S.length ∧ (S.drop (t.pos - p)).take t.text.length = t.text)) ∧
    (∀ (i : Nat) (a b : Tok), l[i]? = some a → l[i + 1]? = some b → a.pos < b.pos) ∧ l.length ≤ S.length := by
  refine lexW_induct _ (fun p l h => ?_) (fun p c r n hx ih l h => ?_) (fun p c r n k t v hx ih l h => ?_) (fun p c r n e hx l h => ?_)
  · rw [lexW_nil] at h
    obtain rfl : [] = l := Except.ok.inj h
    refine ⟨fun i t ht => by simp at ht, fun i a b ha => by simp at ha, Nat.zero_le _⟩
  · rw [lexW_none hx] at h
    have hn : n ≤ r.length := by have := lexeme_le c r; rw [hx] at this; exact this
    have hl : (r.drop n).length = r.length - n := List.length_drop
    obtain ⟨h1, h2, h3⟩ := ih l h
    refine ⟨fun i t ht => ?_, h2, by simp at h3 ⊢; omega⟩
    obtain ⟨g1, g2, g3⟩ := h1 i t ht
    refine ⟨by omega, by simp; omega, fun hk => ?_⟩
    obtain ⟨g4, g5⟩ := g3 hk
    refine ⟨by simp; omega, ?_⟩
    rw [show t.pos - p = (n + (t.pos - (p + 1 + n))) + 1 by omega, List.drop_succ_cons, ← List.drop_drop]
    exact g5
  · rw [lexW_tok hx] at h
    have hn : n ≤ r.length := by have := lexeme_le c r; rw [hx] at this; exact this
    have hl : (r.drop n).length = r.length - n := List.length_drop
    cases hy : lexW (p + 1 + n) (r.drop n) with
    | error x => rw [hy] at h; simp [glue] at h
    | ok l' =>
      rw [hy] at h
      obtain rfl : ⟨k, p, t, v⟩ :: l' = l := by simpa [glue] using h
      obtain ⟨h1, h2, h3⟩ := ih l' hy
      refine ⟨fun i u hu => ?_, fun i a b ha hb => ?_, by simp at h3 ⊢; omega⟩
      · cases i with
        | zero =>
          obtain rfl : ⟨k, p, t, v⟩ = u := by simpa using hu
          refine ⟨Nat.le_refl _, by simp, fun hk => ?_⟩
          have ht := lexeme_word hx hk
          subst ht
          simp only [List.length_cons, List.length_take, Nat.sub_self, List.drop_zero]
          refine ⟨by omega, ?_⟩
          rw [Nat.min_eq_left hn, List.take_succ_cons]
        | succ i =>
          obtain ⟨g1, g2, g3⟩ := h1 i u (by simpa using hu)
          refine ⟨by omega, by simp; omega, fun hk => ?_⟩
          obtain ⟨g4, g5⟩ := g3 hk
          refine ⟨by simp; omega, ?_⟩
          rw [show u.pos - p = (n + (u.pos - (p + 1 + n))) + 1 by omega, List.drop_succ_cons, ← List.drop_drop]
          exact g5
      · cases i with
        | zero =>
          obtain rfl : ⟨k, p, t, v⟩ = a := by simpa using ha
          have := (h1 0 b (by simpa using hb)).1
          show p < b.pos
          omega
        | succ i => exact h2 i a b (by simpa using ha) (by simpa using hb)
  · rw [lexW_err hx] at h; cases h
/-- What is wrong lies within the text. -/
theorem lexW_error : ∀ (S : List UInt8) (p e q : Nat), lexW p S = .error (e, q) → p ≤ q ∧ q < p + S.length ∧ (e = 6 ∨ e = 7) := by
  refine lexW_induct _ (fun p e q h => ?_) (fun p c r n hx ih e q h => ?_) (fun p c r n k t v hx ih e q h => ?_) (fun p c r n e' hx e q h => ?_)
  · rw [lexW_nil] at h; cases h
  · rw [lexW_none hx] at h
    have hn : n ≤ r.length := by have := lexeme_le c r; rw [hx] at this; exact this
    have := ih e q h
    simp at this ⊢
    omega
  · rw [lexW_tok hx] at h
    have hn : n ≤ r.length := by have := lexeme_le c r; rw [hx] at this; exact this
    cases hy : lexW (p + 1 + n) (r.drop n) with
    | error x =>
      rw [hy] at h
      obtain rfl : x = (e, q) := by simpa [glue] using h
      have := ih e q hy
      simp at this ⊢
      omega
    | ok l' => rw [hy] at h; simp [glue] at h
  · rw [lexW_err hx] at h
    obtain ⟨rfl, rfl⟩ := Prod.mk.inj (Except.error.inj h)
    refine ⟨Nat.le_refl _, by simp, ?_⟩
    unfold lexeme at hx
    repeat' split at hx
    all_goals simp only [Prod.mk.injEq, Except.error.injEq, reduceCtorEq, false_and] at hx
    all_goals omega

/-- Tokens so many places on. -/
def sh (d : Nat) (t : Tok) : Tok := ⟨t.kind, t.pos + d, t.text, t.num⟩
def shiftE (d : Nat) : Except (Nat × Nat) (List Tok) → Except (Nat × Nat) (List Tok)
  | .ok l => .ok (l.map (sh d))
  | .error x => .error (x.1, x.2 + d)
theorem lexW_shift (d : Nat) : ∀ (S : List UInt8) (p : Nat), lexW (p + d) S = shiftE d (lexW p S) := by
  refine lexW_induct _ (fun p => ?_) (fun p c r n hx ih => ?_) (fun p c r n k t v hx ih => ?_) (fun p c r n e hx => ?_)
  · rw [lexW_nil, lexW_nil]; rfl
  · rw [lexW_none hx, lexW_none hx, ← ih]; congr 1; omega
  · rw [lexW_tok hx, lexW_tok hx, show p + d + 1 + n = p + 1 + n + d by omega, ih]
    cases lexW (p + 1 + n) (r.drop n) <;> rfl
  · rw [lexW_err hx, lexW_err hx]; rfl

theorem takeWhile_append_stop (q : UInt8 → Bool) (Y : List UInt8) (hY : ∀ y, Y.head? = some y → q y = false) : ∀ X : List UInt8, (∀ x ∈ X, q x = true) → (X ++ Y).takeWhile q = X
  | [], _ => by
    cases Y with
    | nil => rfl
    | cons y Y => simp [hY y rfl]
  | x :: X, h => by
    have hx := h x (by simp)
    rw [List.cons_append, List.takeWhile_cons, if_pos hx, takeWhile_append_stop q Y hY X fun z hz => h z (by simp [hz])]
theorem takeWhile_all (q : UInt8 → Bool) : ∀ (r : List UInt8), ∀ x ∈ r.takeWhile q, q x = true
  | [], x, hx => by simp at hx
  | c :: r, x, hx => by
    rw [List.takeWhile_cons] at hx
    split at hx
    · rename_i hc
      rcases List.mem_cons.1 hx with rfl | hx
      · exact hc
      · exact takeWhile_all q r x hx
    · simp at hx
theorem takeWhile_stop (q : UInt8 → Bool) : ∀ (r : List UInt8) (y : UInt8), (r.drop (r.takeWhile q).length).head? = some y → q y = false
  | [], y, h => by simp at h
  | c :: r, y, h => by
    rw [List.takeWhile_cons] at h
    split at h
    · exact takeWhile_stop q r y (by simpa using h)
    · rename_i hc
      obtain rfl : c = y := by simpa using h
      simpa using hc

/-- What stands for nothing begins with a blank or a remark's sign. -/
def soft (b : UInt8) : Bool := isBlank b || b == 35
theorem soft_let {b : UInt8} (h : soft b = true) : isLet b = false ∧ isDig b = false ∧ (b == 62) = false := by
  unfold soft isBlank at h
  simp only [Bool.or_eq_true, beq_iff_eq] at h
  rcases h with ((rfl | rfl) | rfl) | rfl <;> decide
theorem lexeme_none {c : UInt8} {r : List UInt8} {n : Nat} (h : lexeme c r = (Lx.none, n)) : (isBlank c = true ∧ n = 0) ∨ (c = 35 ∧ n = (r.takeWhile notEnd).length) := by
  unfold lexeme at h
  repeat' split at h
  all_goals simp only [Prod.mk.injEq, Except.ok.injEq, reduceCtorEq, false_and, true_and] at h
  · rename_i hc; exact .inl ⟨hc, h.symm⟩
  · rename_i hc; exact .inr ⟨by simpa using hc, h.symm⟩
theorem lexeme_blank {c : UInt8} (h : isBlank c = true) (r : List UInt8) : lexeme c r = (Lx.none, 0) := by unfold lexeme; rw [if_pos h]
theorem lexeme_hash (r : List UInt8) : lexeme 35 r = (Lx.none, (r.takeWhile notEnd).length) := by
  unfold lexeme
  rw [if_neg (by decide), if_neg (by decide), if_neg (by decide), if_neg (by decide), if_neg (by decide), if_neg (by decide), if_neg (by decide), if_pos (by decide)]
theorem lexeme_line (r : List UInt8) : lexeme 10 r = (Lx.tok 7 [] 0, 0) := by
  unfold lexeme
  rw [if_neg (by decide), if_neg (by decide), if_neg (by decide), if_neg (by decide), if_neg (by decide), if_neg (by decide), if_pos (by decide)]

/-- A lexeme's bytes make the same lexeme ahead of another text, where that does not go on with it. -/
theorem lexeme_ext {c : UInt8} {r : List UInt8} {n k v : Nat} {t : List UInt8} (h : lexeme c r = (Lx.tok k t v, n)) (Y : List UInt8)
    (hY : Y.head? = (r.drop n).head? ∨ ∃ b, Y.head? = some b ∧ soft b = true) : lexeme c (r.take n ++ Y) = (Lx.tok k t v, n) := by
  have stop : ∀ q : UInt8 → Bool, (∀ b, soft b = true → q b = false) → n = (r.takeWhile q).length → (r.take n ++ Y).takeWhile q = r.takeWhile q := fun q hq hn => by
    subst hn
    rw [takeWhile_take]
    refine takeWhile_append_stop q Y (fun y hy => ?_) _ (takeWhile_all q r)
    rcases hY with hY | ⟨b, hb, hs⟩
    · exact takeWhile_stop q r y (by rw [← hY]; exact hy)
    · rw [hb] at hy
      obtain rfl : b = y := by simpa using hy
      exact hq b hs
  unfold lexeme at h ⊢
  by_cases c0 : isBlank c = true
  · rw [if_pos c0] at h; simp at h
  rw [if_neg c0] at h ⊢
  by_cases c1 : isLet c = true
  · rw [if_pos c1] at h ⊢
    have hn : n = (r.takeWhile isLet).length := (Prod.mk.inj h).2.symm
    rw [stop isLet (fun b hb => (soft_let hb).1) hn]
    exact h
  rw [if_neg c1] at h ⊢
  by_cases c2 : isDig c = true
  · rw [if_pos c2] at h ⊢
    have hn : n = (r.takeWhile isDig).length := (Prod.mk.inj h).2.symm
    rw [stop isDig (fun b hb => (soft_let hb).2.1) hn]
    exact h
  rw [if_neg c2] at h ⊢
  by_cases c3 : (c == 46) = true
  · rw [if_pos c3] at h ⊢; exact h
  rw [if_neg c3] at h ⊢
  by_cases c4 : (c == 47) = true
  · rw [if_pos c4] at h ⊢; exact h
  rw [if_neg c4] at h ⊢
  by_cases c5 : (c == 45) = true
  · rw [if_pos c5] at h ⊢
    by_cases c6 : (r.head? == some 62) = true
    · rw [if_pos c6] at h
      have hn : 1 = n := (Prod.mk.inj h).2
      subst hn
      cases r with
      | nil => simp at c6
      | cons d r =>
        obtain rfl : d = 62 := by simpa using c6
        rw [if_pos (by simp)]
        exact h
    · rw [if_neg c6] at h
      have hn : 0 = n := (Prod.mk.inj h).2
      subst hn
      rw [if_neg]
      · exact h
      · rw [List.take_zero, List.nil_append]
        rcases hY with hY | ⟨b, hb, hs⟩
        · rw [hY, List.drop_zero]; exact c6
        · rw [hb]
          have := (soft_let hs).2.2
          simpa using this
  rw [if_neg c5] at h ⊢
  by_cases c7 : (c == 10) = true
  · rw [if_pos c7] at h ⊢; exact h
  rw [if_neg c7] at h ⊢
  by_cases c8 : (c == 35) = true
  · rw [if_pos c8] at h; simp at h
  · rw [if_neg c8] at h; simp at h

/-- What stands for nothing has no end of a line. -/
theorem blank_no10 : ∀ (B : List UInt8) (p : Nat), lexW p B = .ok [] → ∀ b ∈ B, notEnd b = true := by
  refine lexW_induct _ (fun p h b hb => by simp at hb) (fun p c r n hx ih h b hb => ?_) (fun p c r n k t v hx ih h => ?_) (fun p c r n e hx h => ?_)
  · rw [lexW_none hx] at h
    have hc : notEnd c = true := by
      rcases lexeme_none hx with ⟨h1, _⟩ | ⟨rfl, _⟩
      · unfold isBlank at h1
        simp only [Bool.or_eq_true, beq_iff_eq] at h1
        rcases h1 with (rfl | rfl) | rfl <;> decide
      · decide
    rcases List.mem_cons.1 hb with rfl | hb
    · exact hc
    · rw [← List.take_append_drop n r, List.mem_append] at hb
      rcases hb with hb | hb
      · rcases lexeme_none hx with ⟨_, rfl⟩ | ⟨_, rfl⟩
        · simp at hb
        · rw [takeWhile_take] at hb; exact takeWhile_all _ _ b hb
      · exact ih h b hb
  · rw [lexW_tok hx] at h
    cases hy : lexW (p + 1 + n) (r.drop n) with
    | error x => rw [hy] at h; simp [glue] at h
    | ok l' => rw [hy] at h; simp [glue] at h
  · rw [lexW_err hx] at h; cases h
theorem notEnd_10 : notEnd 10 = false := by decide
/-- What stands for nothing, and the end of its line. -/
theorem blank_line (R : List UInt8) : ∀ (B : List UInt8) (p : Nat), lexW p B = .ok [] → lexW p (B ++ 10 :: R) = glue [⟨7, p + B.length, [], 0⟩] (lexW (p + B.length + 1) R) := by
  refine lexW_induct _ (fun p _ => ?_) (fun p c r n hx ih h => ?_) (fun p c r n k t v hx ih h => ?_) (fun p c r n e hx h => ?_)
  · rw [List.nil_append, lexW_tok (lexeme_line R)]; rfl
  · have h10 := blank_no10 (c :: r) p h
    rw [lexW_none hx] at h
    rcases lexeme_none hx with ⟨h1, rfl⟩ | ⟨rfl, hn⟩
    · rw [List.cons_append, lexW_none (lexeme_blank h1 (r ++ 10 :: R)), List.drop_zero]
      have := ih h
      rw [List.drop_zero] at this
      rw [this]
      congr 2
      · simp; omega
      · simp; omega
    · have hall : (r ++ 10 :: R).takeWhile notEnd = r := takeWhile_append_stop notEnd _ (fun y hy => by
        obtain rfl : 10 = y := by simpa using hy
        exact notEnd_10) r fun x hx => h10 x (by simp [hx])
      have hh := lexeme_hash (r ++ 10 :: R)
      rw [hall] at hh
      rw [List.cons_append, lexW_none hh, List.drop_left, lexW_tok (lexeme_line R), List.drop_zero]
      congr 2
      · simp; omega
      · simp; omega
  · rw [lexW_tok hx] at h
    cases hy : lexW (p + 1 + n) (r.drop n) with
    | error x => rw [hy] at h; simp [glue] at h
    | ok l' => rw [hy] at h; simp [glue] at h
  · rw [lexW_err hx] at h; cases h
theorem blank_soft {B : List UInt8} {p : Nat} (h : lexW p B = .ok []) {b : UInt8} (hb : B.head? = some b) : soft b = true := by
  cases B with
  | nil => simp at hb
  | cons c r =>
    obtain rfl : c = b := by simpa using hb
    rcases hx : lexeme c r with ⟨x, n⟩
    rcases x with e | _ | ⟨k, t, v⟩
    · rw [lexW_err hx] at h; cases h
    · unfold soft
      rcases lexeme_none hx with ⟨h1, _⟩ | ⟨rfl, _⟩
      · rw [h1]; rfl
      · decide
    · rw [lexW_tok hx] at h
      cases hy : lexW (p + 1 + n) (r.drop n) with
      | error x => rw [hy] at h; simp [glue] at h
      | ok l' => rw [hy] at h; simp [glue] at h

/-- WHAT STANDS FOR NOTHING, AND THE END OF ITS LINE, PUT AHEAD OF A TOKEN: one Line more, and places. -/
theorem lexW_insert (B : List UInt8) (hB : lexW 0 B = .ok []) (hne : B ≠ []) : ∀ (S : List UInt8) (p : Nat) (l : List Tok), lexW p S = .ok l → ∀ (k : Nat) (t : Tok), l[k]? = some t →
    ∃ A R, S = A ++ R ∧ p ≤ t.pos ∧ A.length = t.pos - p ∧ lexW t.pos R = .ok (l.drop k) ∧ lexW p (A ++ (B ++ 10 :: R)) = glue (l.take k ++ [⟨7, t.pos + B.length, [], 0⟩]) (lexW (t.pos + B.length + 1) R) := by
  have hBp : ∀ p, lexW p B = .ok [] := fun p => by
    have := lexW_shift p B 0
    rw [Nat.zero_add, hB] at this
    exact this
  obtain ⟨b, B', hb⟩ : ∃ b B', B = b :: B' := by
    cases B with
    | nil => exact absurd rfl hne
    | cons b B' => exact ⟨b, B', rfl⟩
  have hsoft : soft b = true := blank_soft hB (by rw [hb]; rfl)
  have hBh : (B ++ (10 :: ([] : List UInt8))).head? = some b := by rw [hb]; rfl
  refine lexW_induct _ (fun p l h => ?_) (fun p c r n hx ih l h k t ht => ?_) (fun p c r n kd tx v hx ih l h k t ht => ?_) (fun p c r n e hx l h => ?_)
  · rw [lexW_nil] at h
    obtain rfl : [] = l := Except.ok.inj h
    intro k t ht; simp at ht
  · rw [lexW_none hx] at h
    obtain ⟨A, R, hAR, hp, hA, hR, hI⟩ := ih l h k t ht
    have hr : r = r.take n ++ (A ++ R) := by rw [← hAR, List.take_append_drop]
    have hn : n ≤ r.length := by have := lexeme_le c r; rw [hx] at this; exact this
    refine ⟨c :: (r.take n ++ A), R, by rw [List.cons_append, List.append_assoc, ← hr], by omega, by simp [Nat.min_eq_left hn]; omega, hR, ?_⟩
    rw [List.cons_append, List.append_assoc]
    rcases lexeme_none hx with ⟨h1, rfl⟩ | ⟨rfl, hnn⟩
    · rw [lexW_none (lexeme_blank h1 _), List.drop_zero, List.take_zero, List.nil_append]
      exact hI
    · have hta : ∀ x ∈ r.take n, notEnd x = true := by rw [hnn, takeWhile_take]; exact takeWhile_all _ _
      cases A with
      | cons a A' =>
        have ha : notEnd a = false := takeWhile_stop notEnd r a (by rw [← hnn, hAR]; rfl)
        have hw : (r.take n ++ (a :: A' ++ (B ++ 10 :: R))).takeWhile notEnd = r.take n := takeWhile_append_stop notEnd _ (fun y hy => by
          obtain rfl : a = y := by simpa using hy
          exact ha) _ hta
        have hh := lexeme_hash (r.take n ++ (a :: A' ++ (B ++ 10 :: R)))
        rw [hw, List.length_take, Nat.min_eq_left hn] at hh
        rw [lexW_none hh, List.drop_append_of_le_length (by simp [Nat.min_eq_left hn]), List.drop_of_length_le (by simp; omega), List.nil_append]
        exact hI
      | nil =>
        have hpos : t.pos = p + 1 + n := by simp at hA; omega
        have hR0 : r.drop n = R := hAR
        have hw : (r.take n ++ ([] ++ (B ++ 10 :: R))).takeWhile notEnd = r.take n ++ B := by
          rw [List.nil_append, ← List.append_assoc]
          refine takeWhile_append_stop notEnd _ (fun y hy => ?_) _ (fun x hx => ?_)
          · obtain rfl : 10 = y := by simpa using hy
            exact notEnd_10
          · rcases List.mem_append.1 hx with hx | hx
            · exact hta x hx
            · exact blank_no10 B 0 hB x hx
        have hh := lexeme_hash (r.take n ++ ([] ++ (B ++ 10 :: R)))
        rw [hw, List.length_append, List.length_take, Nat.min_eq_left hn] at hh
        rw [lexW_none hh, List.nil_append, ← List.append_assoc, List.drop_append_of_le_length (by simp [Nat.min_eq_left hn]), List.drop_of_length_le (by simp [Nat.min_eq_left hn]), List.nil_append, lexW_tok (lexeme_line R), List.drop_zero]
        have hk0 : l.take k = [] := by
          rw [← hR0, hpos, h] at hR
          have e := congrArg List.length (Except.ok.inj hR)
          rw [List.length_drop] at e
          have hkl : k < l.length := (List.getElem?_eq_some_iff.1 ht).1
          have : k = 0 := by omega
          rw [this]; rfl
        rw [hk0, List.nil_append, hpos]
        congr 2
        · simp; omega
        · omega
  · rw [lexW_tok hx] at h
    have hn : n ≤ r.length := by have := lexeme_le c r; rw [hx] at this; exact this
    cases hy : lexW (p + 1 + n) (r.drop n) with
    | error x => rw [hy] at h; simp [glue] at h
    | ok l' =>
      rw [hy] at h
      obtain rfl : ⟨kd, p, tx, v⟩ :: l' = l := by simpa [glue] using h
      cases k with
      | zero =>
        obtain rfl : ⟨kd, p, tx, v⟩ = t := by simpa using ht
        refine ⟨[], c :: r, rfl, Nat.le_refl _, by simp, ?_, ?_⟩
        · rw [List.drop_zero, lexW_tok hx, hy]; rfl
        · rw [List.nil_append, blank_line (c :: r) B p (hBp p)]; rfl
      | succ k =>
        obtain ⟨A, R, hAR, hp, hA, hR, hI⟩ := ih l' hy k t (by simpa using ht)
        have hr : r = r.take n ++ (A ++ R) := by rw [← hAR, List.take_append_drop]
        refine ⟨c :: (r.take n ++ A), R, by rw [List.cons_append, List.append_assoc, ← hr], by omega, by simp [Nat.min_eq_left hn]; omega, by simpa using hR, ?_⟩
        rw [List.cons_append, List.append_assoc]
        have hext : lexeme c (r.take n ++ (A ++ (B ++ 10 :: R))) = (Lx.tok kd tx v, n) := by
          refine lexeme_ext hx _ ?_
          cases A with
          | cons a A' => left; rw [hAR]; rfl
          | nil => right; exact ⟨b, by rw [hb]; rfl, hsoft⟩
        rw [lexW_tok hext, List.drop_append_of_le_length (by simp [Nat.min_eq_left hn]), List.drop_of_length_le (by simp; omega), List.nil_append, hI, glue_glue]
        simp
  · rw [lexW_err hx] at h; cases h

theorem lex_put (B : List UInt8) (hB : lexW 0 B = .ok []) (hne : B ≠ []) (S : List UInt8) (l : List Tok) (h : lexW 0 S = .ok l) (k : Nat) (t : Tok) (ht : l[k]? = some t) :
    lexW 0 (S.take t.pos ++ (B ++ 10 :: S.drop t.pos)) = .ok (l.take k ++ ⟨7, t.pos + B.length, [], 0⟩ :: (l.drop k).map (sh (B.length + 1))) := by
  obtain ⟨A, R, hS, _, hA, hR, hI⟩ := lexW_insert B hB hne S 0 l h k t ht
  rw [Nat.sub_zero] at hA
  have e1 : S.take t.pos = A := by rw [hS, ← hA, List.take_left]
  have e2 : S.drop t.pos = R := by rw [hS, ← hA, List.drop_left]
  rw [e1, e2, hI, show t.pos + B.length + 1 = t.pos + (B.length + 1) by omega, lexW_shift, hR]
  simp [shiftE, glue]
end Go.Proofs.YtnbklmmampdbfaaDoor
namespace Go.Proofs.YtnbklmmampdbfaaDoor
open Go Go.RowKit
set_option maxRecDepth 20000

/-- The extern that finds a byte. -/
theorem extern_idx (s : ByteArray) (c : Int) (w : World) : (callFunc 97 #[.string s, .int .u8 c]).run Tryd.prog w = .ok (.value (.int .i64 (Lib.indexByte s.data.toList c.toNat.toUInt8))) w := by
  rw [run_callFunc_extern (e := Extern.BytealgIndexByte.indexByte) Tryd.func97 (by kernel_rfl) (by kernel_rfl) (by kernel_rfl) (by kernel_rfl), Lib.run_indexByteString]
  rfl

set_option maxHeartbeats 400000 in
theorem idx_any (s : ByteArray) (c : Int) (w : World) :
    Calls Tryd.prog 60 #[.string s, .int .u8 c] w fun e w' => e = .returned (.int .i64 (Lib.indexByte s.data.toList c.toNat.toUInt8)) ∧ w' = w := by
  have h1 : ∀ W, (callFunc 97 #[.string s, .int .u8 c]).run Tryd.prog W = .ok (.value (.int .i64 (Lib.indexByte s.data.toList c.toNat.toUInt8))) W := extern_idx s c
  have h2 : ∀ W, Calls Tryd.prog 80 #[.string s, .int .u8 c] W fun e w' => e = .returned (.int .i64 (Lib.indexByte s.data.toList c.toNat.toUInt8)) ∧ w' = W := fun W => by
    go_enter Tryd.func80, Tryd.ntmps80
    go_wp2
    go_ret
    exact ⟨rfl, rfl⟩
  go_enter Tryd.func60, Tryd.ntmps60
  go_wp2_with fail
  refine (h2 _).mono ?_
  rintro e w1 ⟨rfl, rfl⟩
  go_wp2_with fail
  go_ret
  exact ⟨rfl, rfl⟩
theorem idx_iff (l : List UInt8) (c : UInt8) : 0 ≤ Lib.indexByte l c ↔ c ∈ l := by
  induction l with
  | nil => simp [Lib.indexByte]
  | cons b l ih =>
    have := Lib.indexByte_ge l c
    unfold Lib.indexByte
    by_cases h : (b == c) = true
    · rw [if_pos h]
      have : b = c := by simpa using h
      simp [this]
    · rw [if_neg h]
      have hne : ¬ c = b := fun e => h (by simp [e])
      by_cases h2 : (Lib.indexByte l c == -1) = true
      · rw [if_pos h2]
        have h3 : Lib.indexByte l c = -1 := by simpa using h2
        rw [h3] at ih
        simp only [List.mem_cons, hne, false_or, ← ih]
      · rw [if_neg h2]
        have h3 : ¬ Lib.indexByte l c = -1 := by simpa using h2
        simp only [List.mem_cons, hne, false_or, ← ih]
        omega
/-- Where a byte that is there stands first. -/
theorem idx_take (l : List UInt8) (c : UInt8) (h : 0 ≤ Lib.indexByte l c) : Lib.indexByte l c = ((l.takeWhile fun b => b != c).length : Nat) := by
  induction l with
  | nil => simp [Lib.indexByte] at h
  | cons b l ih =>
    have hge := Lib.indexByte_ge l c
    unfold Lib.indexByte at h ⊢
    by_cases h1 : (b == c) = true
    · rw [if_pos h1]
      have : b = c := by simpa using h1
      simp [this]
    · rw [if_neg h1] at h ⊢
      by_cases h2 : (Lib.indexByte l c == -1) = true
      · rw [if_pos h2] at h; omega
      · rw [if_neg h2]
        have h3 : ¬ Lib.indexByte l c = -1 := by simpa using h2
        have hb : (b != c) = true := by simpa using h1
        rw [List.takeWhile_cons, if_pos hb, List.length_cons, ih (by omega)]
        omega
theorem idx_none (l : List UInt8) (c : UInt8) (h : ¬ 0 ≤ Lib.indexByte l c) : (l.takeWhile fun b => b != c).length = l.length := by
  rw [idx_iff] at h
  have := takeWhile_append_stop (fun b => b != c) [] (fun y hy => by simp at hy) l fun b hb => by
    have : b ≠ c := fun e => h (e ▸ hb)
    simpa using this
  rw [List.append_nil] at this
  rw [this]

def abcL : List UInt8 := [97, 98, 99, 100, 101, 102, 103, 104, 105, 106, 107, 108, 109, 110, 111, 112, 113, 114, 115, 116, 117, 118, 119, 120, 121, 122]
def digL : List UInt8 := [48, 49, 50, 51, 52, 53, 54, 55, 56, 57]
theorem all256 (p : UInt8 → Bool) (h : (List.range 256).all (fun n => p (UInt8.ofNat n)) = true) (c : UInt8) : p c = true := by
  rw [List.all_eq_true] at h
  have := h c.toNat (by rw [List.mem_range]; exact c.toNat_lt)
  rwa [UInt8.ofNat_toNat] at this
theorem abc_let (c : UInt8) : decide (0 ≤ Lib.indexByte abcL c) = isLet c := by
  have := all256 (fun c => decide (0 ≤ Lib.indexByte abcL c) == isLet c) (by kernel_rfl) c
  simpa using this
theorem dig_dig (c : UInt8) : decide (0 ≤ Lib.indexByte digL c) = isDig c := by
  have := all256 (fun c => decide (0 ≤ Lib.indexByte digL c) == isDig c) (by kernel_rfl) c
  simpa using this

theorem tw_in (q : UInt8 → Bool) : ∀ (S : List UInt8) (k : Nat), k < (S.takeWhile q).length → ∃ b, S[k]? = some b ∧ q b = true
  | [], k, h => by simp at h
  | c :: S, k, h => by
    rw [List.takeWhile_cons] at h
    split at h
    · rename_i hc
      cases k with
      | zero => exact ⟨c, rfl, hc⟩
      | succ k =>
        obtain ⟨b, h1, h2⟩ := tw_in q S k (by simpa using h)
        exact ⟨b, by simpa using h1, h2⟩
    · simp at h
theorem tw_out (q : UInt8 → Bool) (S : List UInt8) (b : UInt8) (h : S[(S.takeWhile q).length]? = some b) : q b = false :=
  takeWhile_stop q S b (by rw [List.head?_drop]; exact h)
theorem byte_beq (b : UInt8) (c : UInt8) : (((b.toNat : Int)) == (c.toNat : Int)) = (b == c) := by
  rw [Bool.eq_iff_iff, beq_iff_eq, beq_iff_eq]
  constructor
  · intro h; exact UInt8.toNat_inj.1 (by exact_mod_cast h)
  · rintro rfl; rfl
theorem byte_q (s : ByteArray) (k : Nat) (hk : k < s.size) : s.data.toList[k]? = some s[k] := by
  rw [List.getElem?_eq_getElem (by simpa using hk)]; rfl

set_option maxHeartbeats 1000000 in
theorem row_any (s : ByteArray) (hs : s.size ≤ maxLen) (kind : ByteArray) (q : UInt8 → Bool) (hq : ∀ c, decide (0 ≤ Lib.indexByte kind.data.toList c) = q c) (w : World) :
    Calls Tryd.prog 61 #[.string s, .string kind] w fun e w' => e = .returned (.int .i64 ((s.data.toList.takeWhile q).length : Nat)) ∧ w' = w := by
  unfold maxLen at hs
  obtain ⟨T, hT⟩ : ∃ T, T = (s.data.toList.takeWhile q).length := ⟨_, rfl⟩
  have hTs : T ≤ s.size := by
    rw [hT, Lib.size_eq]; exact takeWhile_le q _
  have HIN : Hid (∀ k (hk : k < s.size), k < T → q s[k] = true) := fun k hk hkT => by
    obtain ⟨b, h1, h2⟩ := tw_in q s.data.toList k (by omega)
    rw [byte_q s k hk] at h1
    obtain rfl : s[k] = b := by simpa using h1
    exact h2
  have HOUT : Hid (∀ (hk : T < s.size), q s[T] = false) := fun hk => tw_out q s.data.toList _ (by rw [← hT]; exact byte_q s T hk)
  have HI : Hid (∀ (c : UInt8) W, Calls Tryd.prog 60 #[.string kind, .int .u8 (c.toNat : Int)] W fun e w' => e = .returned (.int .i64 (Lib.indexByte kind.data.toList c)) ∧ w' = W) := fun c W => by
    have := idx_any kind (c.toNat : Int) W
    rwa [show ((c.toNat : Int)).toNat.toUInt8 = c by simp] at this
  have HQ : Hid (∀ c, decide (0 ≤ Lib.indexByte kind.data.toList c) = q c) := hq
  rw [← hT]
  clear hT hq
  go_enter Tryd.func61, Tryd.ntmps61
  go_wp2_with fail
  go_loop [5] (fun n => ∃ k : Nat, k ≤ T ∧ n = .int .i64 (k : Int)) (fun n => T - (intOf n).toNat)
  case atStart => exact ⟨0, Nat.zero_le _, rfl⟩
  case round =>
    obtain ⟨k, hk, rfl⟩ := hrel
    by_cases hin : k < s.size
    · have hix : ∀ W, (Instr.index 9 (.string s) (.int .i64 (k : Int))).run Tryd.prog W = .ok (.int .u8 (s[k].toNat : Int)) W := fun W => by
        simp [go_sem, Tryd.underlying9, hin]
      obtain ⟨c, hc⟩ : ∃ c, c = s[k] := ⟨_, rfl⟩
      have C1 : Hid (∀ W, Calls Tryd.prog 60 #[.string kind, .int .u8 (c.toNat : Int)] W fun e w' => e = .returned (.int .i64 (Lib.indexByte kind.data.toList c)) ∧ w' = W) := HI.out c
      have hd := HQ.out c
      obtain ⟨J, hJ⟩ : ∃ J, J = Lib.indexByte kind.data.toList c := ⟨_, rfl⟩
      rw [← hJ] at C1 hd
      rw [← hc] at hix
      have hin' : (k : Int) < (s.size : Int) := by omega
      by_cases hkT : k < T
      · have hqc : q c = true := by rw [hc]; exact HIN.out k hin hkT
        have hJ0 : 0 ≤ J := by rw [hqc] at hd; exact of_decide_eq_true hd
        clear hd hqc hJ hc hin
        go_wp2_with fail
        refine (C1.out _).mono ?_
        rintro e w1 ⟨rfl, rfl⟩
        go_wp2_with fail
        go_round
        case rel => exact ⟨k + 1, by omega, by go_num⟩
        case measure => simp [intOf]; omega
      · have hkT' : k = T := by omega
        subst hkT'
        have hqc : q c = false := by rw [hc]; exact HOUT.out hin
        have hJ0 : ¬ 0 ≤ J := by rw [hqc] at hd; exact of_decide_eq_false hd
        clear hd hqc hJ hc hin hkT
        go_wp2_with fail
        refine (C1.out _).mono ?_
        rintro e w1 ⟨rfl, rfl⟩
        go_wp2_with fail
        go_ret
        exact ⟨rfl, rfl⟩
    · have hin' : (s.size : Int) ≤ (k : Int) := by omega
      have hkT' : k = T := by omega
      subst hkT'
      clear hin
      go_wp2_with fail
      go_ret
      exact ⟨rfl, rfl⟩

set_option maxHeartbeats 1000000 in
theorem remark_any (s : ByteArray) (w : World) :
    Calls Tryd.prog 41 #[.string s] w fun e w' => e = .returned (.int .i64 ((s.data.toList.takeWhile notEnd).length : Nat)) ∧ w' = w := by
  have C1 : Hid (∀ W, Calls Tryd.prog 60 #[.string s, .int .u8 10] W fun e w' => e = .returned (.int .i64 (Lib.indexByte s.data.toList 10)) ∧ w' = W) := fun W => idx_any s 10 W
  have h1 : 0 ≤ Lib.indexByte s.data.toList 10 → Lib.indexByte s.data.toList 10 = ((s.data.toList.takeWhile notEnd).length : Nat) := idx_take s.data.toList 10
  have h2 : ¬ 0 ≤ Lib.indexByte s.data.toList 10 → (s.data.toList.takeWhile notEnd).length = s.size := fun h => by
    rw [Lib.size_eq]; exact idx_none s.data.toList 10 h
  obtain ⟨J, hJ⟩ : ∃ J, J = Lib.indexByte s.data.toList 10 := ⟨_, rfl⟩
  obtain ⟨T, hT⟩ : ∃ T, T = (s.data.toList.takeWhile notEnd).length := ⟨_, rfl⟩
  rw [← hJ] at C1 h1 h2
  rw [← hT] at h1 h2 ⊢
  clear hJ hT
  by_cases h : 0 ≤ J
  · have := h1 h
    subst this
    clear h1 h2
    go_enter Tryd.func41, Tryd.ntmps41
    go_wp2_with fail
    refine (C1.out _).mono ?_
    rintro e w1 ⟨rfl, rfl⟩
    go_wp2_with fail
    go_ret
    exact ⟨rfl, rfl⟩
  · have := h2 h
    subst this
    clear h1 h2
    go_enter Tryd.func41, Tryd.ntmps41
    go_wp2_with fail
    refine (C1.out _).mono ?_
    rintro e w1 ⟨rfl, rfl⟩
    go_wp2_with fail
    go_ret
    exact ⟨rfl, rfl⟩
end Go.Proofs.YtnbklmmampdbfaaDoor
namespace Go.Proofs.YtnbklmmampdbfaaDoor
open Go Go.RowKit
set_option maxRecDepth 20000

/-- Where a walk stands still. -/
def StopT (p : Prop) : Prop := p
theorem of_stopT {p : Prop} (h : StopT p) : p := h
/-- A token's cells. -/
def tv (k p : Int) (t : ByteArray) (n : Int) : Array Value := #[.int .i64 k, .int .i64 p, .string t, .int .i64 n]
def encT (t : Tok) : Array Value := tv (t.kind : Nat) (t.pos : Nat) ⟨t.text.toArray⟩ (t.num : Nat)
def TokE : El := ⟨88, 58, 4, 40, tv 0 0 ⟨#[]⟩ 0⟩
theorem TokOk : TokE.Ok := ⟨Tryd.underlying58, ⟨_, Tryd.underlying88, rfl⟩, by kernel_rfl, rfl, by decide, by decide, by decide⟩
theorem tv_fits (k p : Int) (t : ByteArray) (n : Int) : Fits TokE (tv k p t n) := ⟨rfl, by simp [tv, Value.oneCell']⟩
theorem encT_size (t : Tok) : (encT t).size = TokE.size := rfl

theorem beq_bytes (a b : ByteArray) : (a == b) = (a.data.toList == b.data.toList) := by rw [beq_toListBytes, ByteArray.toList_eq, ByteArray.toList_eq]
theorem eqFields_step {P : Program} (w : World) {d : Nat} {xs ys : Array Value} {f : Field} {fs : List Field} {a b : Value} {r R : Bool} (hn : f.name ≠ "_") (ha : (part f.type xs f.offset).run P w = .ok a w) (hb : (part f.type ys f.offset).run P w = .ok b w)
    (he : (Op.equalIn d f.type a b).run P w = .ok r w) (h : (Op.eqFields d xs ys fs).run P w = .ok R w) : (Op.eqFields d xs ys (f :: fs)).run P w = .ok (r && R) w := by
  simp only [Op.eqFields, if_pos hn, Sem.run_bind, ha, hb, he, Result.andThen_ok]
  cases r
  · simp
  · simpa using h
theorem part_cell {P : Program} (w : World) {t : TypeId} {xs : Array Value} {k : Nat} {v : Value} (ha : (isAgg t).run P w = .ok false w) (hx : xs[k]? = some v) : (part t xs k).run P w = .ok v w := by
  simp [part, ha, hx, Sem.run_bind]
theorem eqT (k p : Int) (t : ByteArray) (n : Int) (k' p' : Int) (t' : ByteArray) (n' : Int) (w : World) :
    (Op.equalIn 10000 88 (.agg (tv k p t n)) (.agg (tv k' p' t' n'))).run Tryd.prog w = .ok (k == k' && (p == p' && (t.toList == t'.toList && (n == n' && true)))) w := by
  rw [run_equalIn_struct w 9999 88 _ _ Tryd.underlying88 (by kernel_rfl)]
  have a3 : (isAgg 3).run Tryd.prog w = .ok false w := by kernel_rfl
  have a9 : (isAgg 9).run Tryd.prog w = .ok false w := by kernel_rfl
  simp only [Program.fieldsOf, Tryd.underlying88]
  refine eqFields_step w (by decide) (part_cell w a3 rfl) (part_cell w a3 rfl) (run_equalIn_int w _ 3 .i64 .i64 _ _ Tryd.underlying3) ?_
  refine eqFields_step w (by decide) (part_cell w a3 rfl) (part_cell w a3 rfl) (run_equalIn_int w _ 3 .i64 .i64 _ _ Tryd.underlying3) ?_
  refine eqFields_step w (by decide) (part_cell w a9 rfl) (part_cell w a9 rfl) (run_equalIn_string w _ 9 _ _ Tryd.underlying9) ?_
  refine eqFields_step w (by decide) (part_cell w a3 rfl) (part_cell w a3 rfl) (run_equalIn_int w _ 3 .i64 .i64 _ _ Tryd.underlying3) ?_
  rfl
theorem eqT_same (t : Tok) (w : World) : (Op.equalIn 10000 88 (.agg (encT t)) (.agg (encT t))).run Tryd.prog w = .ok true w := by
  unfold encT
  rw [eqT]
  simp
theorem egT (op : BinOp) (x y : Operand) (xs ys : Array Value) (w : World) : (eqGuard op 88 x y (.agg xs) (.agg ys)).run Tryd.prog w = .ok () w :=
  run_eqGuard_agg w op 88 x y xs ys (by kernel_rfl)

theorem tc_row {w : World} {g k : Nat} {cs : Array Value} {t : TypeId} {fr : Nat × Nat} (h : w.heap[g]? = some (.cells cs t fr)) (v : Value) : (w.setCell ⟨g, k, none⟩ v).heap[g]? = some (.cells (cs.setIfInBounds k v) t fr) := by
  simp [World.setCell, Array.getElem?_modify, h]
theorem tc_far {w : World} {g g' k : Nat} (h : g ≠ g') (v : Value) : (w.setCell ⟨g, k, none⟩ v).heap[g']? = w.heap[g']? := by
  simp [World.setCell, Array.getElem?_modify, h]
theorem tc_below {B : Nat} {a w : World} (h : Below B a w) {g : Nat} (hg : B ≤ g) (k : Nat) (v : Value) : Below B a (w.setCell ⟨g, k, none⟩ v) :=
  ⟨h.os, h.tape, h.output, by simpa [World.setCell] using h.size, fun j hj => (tc_far (by omega) v).trans (h.block j hj)⟩
theorem tc_size (w : World) (a : Addr) (v : Value) : (w.setCell a v).heap.size = w.heap.size := by simp [World.setCell]
theorem tc_frozen {w : World} {g k : Nat} {cs : Array Value} {t : TypeId} {fr : Nat × Nat} (h : w.heap[g]? = some (.cells cs t fr)) (hf : fr = (0, 0)) : w.frozen? ⟨g, k, none⟩ = false := by
  subst hf
  simp [World.frozen?, h]

theorem retT {fn : Func} {R : Ending → World → Prop} {a : Act} {w : World} {p u u' : Tmp} (hr : fn.results = #[.cell p 88, .tmp u, .tmp u']) (hd : a.defers = []) (g : Nat) (hp : a.tmps.getD p undef = .pointer (some ⟨g, 0, none⟩)) (cs : Array Value) (hcs : cs.size = 4)
    (hg : w.heap[g]? = some (.cells cs 88 (0, 0))) (v v' : Value) (hu : a.tmps.getD u undef = v) (hu' : a.tmps.getD u' undef = v') (h : R (.returned (.tuple #[.agg cs, v, v'])) w) : bodyPost Tryd.prog fn R .ret a w := by
  refine bodyPost_ret (v := .tuple #[.agg cs, v, v']) ?_ hd h
  rw [Array.getD_eq_getD_getElem?] at hp hu hu'
  simp [results, hr, hp, hu, hu', asAddr, run_loadVar_row w g 88 88 cs (0, 0) _ hg Tryd.underlying88 rfl (TokOk.cellsz cs hcs)]
end Go.Proofs.YtnbklmmampdbfaaDoor
namespace Go.Proofs.YtnbklmmampdbfaaDoor
open Go.ChangeShapes Go.WideShapes Go.ChangeAt Go.WideMaps Go.WideElems Go.RowKit
set_option maxRecDepth 20000

theorem take_one {cs : List Value} {i : Nat} {v : Value} (h : (cs.drop i).take 1 = [v]) : cs[i]? = some v := by
  have := congrArg List.head? h
  rw [List.head?_take, if_neg (by decide), List.head?_drop] at this
  simpa using this
/-- The one cell of a field. -/
theorem field_int {P : Program} {H : Type} {enc : TypeId × Value → H} {W : World} {base : Nat} {spare : Nat → Bool} {held : Bool} {n : Nat} {t : TypeId} {cs : List Value} {y : Option (DataW H × List MemPlace)} {i : Nat} {k : IntKind} (ht : P.underlying t = some (.int k)) (hc : P.cellsOf t = 1)
    (h : DataW.trod enc P W base spare held n t ((cs.drop i).take (P.cellsOf t)) = y) (hy : y.isSome = true) : ∃ z : Int, cs[i]? = some (.int k z) ∧ (Lit.int k z).wf = true := by
  obtain ⟨y', rfl⟩ := Option.isSome_iff_exists.1 hy
  obtain ⟨z, h1, _, h3⟩ := DataW.trod_int ht h
  rw [hc] at h1
  exact ⟨z, take_one h1, h3⟩
theorem field_bool {P : Program} {H : Type} {enc : TypeId × Value → H} {W : World} {base : Nat} {spare : Nat → Bool} {held : Bool} {n : Nat} {t : TypeId} {cs : List Value} {y : Option (DataW H × List MemPlace)} {i : Nat} (ht : P.underlying t = some .bool) (hc : P.cellsOf t = 1)
    (h : DataW.trod enc P W base spare held n t ((cs.drop i).take (P.cellsOf t)) = y) (hy : y.isSome = true) : ∃ b : Bool, cs[i]? = some (.bool b) := by
  obtain ⟨y', rfl⟩ := Option.isSome_iff_exists.1 hy
  obtain ⟨b, h1, _⟩ := DataW.trod_bool ht h
  rw [hc] at h1
  exact ⟨b, take_one h1⟩
theorem field_string {P : Program} {H : Type} {enc : TypeId × Value → H} {W : World} {base : Nat} {spare : Nat → Bool} {held : Bool} {n : Nat} {t : TypeId} {cs : List Value} {y : Option (DataW H × List MemPlace)} {i : Nat} (ht : P.underlying t = some .string) (hc : P.cellsOf t = 1)
    (h : DataW.trod enc P W base spare held n t ((cs.drop i).take (P.cellsOf t)) = y) (hy : y.isSome = true) : ∃ s : ByteArray, cs[i]? = some (.string s) ∧ s.size ≤ maxLen := by
  obtain ⟨y', rfl⟩ := Option.isSome_iff_exists.1 hy
  obtain ⟨s, h1, _, h3⟩ := DataW.trod_string ht h
  rw [hc] at h1
  exact ⟨s, take_one h1, h3⟩
/-- A field that is a slice: its cell, and what is read of it. -/
theorem field_slice {P : Program} {H : Type} {enc : TypeId × Value → H} {W : World} {base : Nat} {spare : Nat → Bool} {held : Bool} {n : Nat} {t e : TypeId} {cs : List Value} {y : Option (DataW H × List MemPlace)} {i : Nat} (ht : P.underlying t = some (.slice e)) (hc : P.cellsOf t = 1)
    (h : DataW.trod enc P W base spare held n t ((cs.drop i).take (P.cellsOf t)) = y) (hy : y.isSome = true) : ∃ (v : Value) (x : DataW H × List MemPlace), cs[i]? = some v ∧ DataW.trod enc P W base spare held n t [v] = some x := by
  obtain ⟨y', rfl⟩ := Option.isSome_iff_exists.1 hy
  have hv : ∃ v, (cs.drop i).take (P.cellsOf t) = [v] := by
    rcases DataW.trod_slice ht h with ⟨e1, _⟩ | ⟨a, len, cap, _, _, _, _, e1, _⟩
    · exact ⟨_, e1⟩
    · exact ⟨_, e1⟩
  obtain ⟨v, hv⟩ := hv
  rw [hv] at h
  rw [hc] at hv
  exact ⟨v, y', take_one hv, h⟩
theorem xs_some {α : Type} {xs : List α} {n i : Nat} (h : xs.length = n) (hi : i < n) : (xs[i]?).isSome = true := by
  rw [List.getElem?_eq_getElem (by omega)]; rfl

/-- A token that comes in. -/
theorem tok_of {H : Type} {enc : TypeId × Value → H} {W : World} {base : Nat} {spare : Nat → Bool} {held : Bool} (fuel : Nat) (cs : List Value) (x : DataW H × List MemPlace) (hl : cs.length = 4)
    (h : DataW.trod enc Tryd.prog W base spare held fuel 88 cs = some x) : ∃ c : Int × Int × ByteArray × Int, cs = (tv c.1 c.2.1 c.2.2.1 c.2.2.2).toList ∧ c.2.2.1.size ≤ maxLen := by
  have c3 : Tryd.prog.cellsOf 3 = 1 := by kernel_rfl
  have c9 : Tryd.prog.cellsOf 9 = 1 := by kernel_rfl
  obtain ⟨xs, n, _, _, _, hxl, hf⟩ := DataW.trod_struct Tryd.underlying88 h
  obtain ⟨k, h0, _⟩ := field_int Tryd.underlying3 c3 (hf 0 _ rfl) (xs_some hxl (by decide))
  obtain ⟨p, h1, _⟩ := field_int Tryd.underlying3 c3 (hf 1 _ rfl) (xs_some hxl (by decide))
  obtain ⟨t, h2, hs⟩ := field_string Tryd.underlying9 c9 (hf 2 _ rfl) (xs_some hxl (by decide))
  obtain ⟨m, h3, _⟩ := field_int Tryd.underlying3 c3 (hf 3 _ rfl) (xs_some hxl (by decide))
  refine ⟨(k, p, t, m), ?_, hs⟩
  match cs, hl with
  | [a, b, c, d], _ =>
    obtain rfl : a = .int .i64 k := by simpa using h0
    obtain rfl : b = .int .i64 p := by simpa using h1
    obtain rfl : c = .string t := by simpa using h2
    obtain rfl : d = .int .i64 m := by simpa using h3
    rfl
end Go.Proofs.YtnbklmmampdbfaaDoor
namespace Go.Proofs.YtnbklmmampdbfaaDoor
open Go
set_option maxRecDepth 20000

/-- A number in a text, and where it begins. -/
structure Fig where
  n : Int
  pos : Int
/-- A word and its numbers. -/
structure Cla where
  word : List UInt8
  pos : Int
  nums : List Fig
  slash : Bool
  dash : Bool
/-- A line. -/
structure Raw where
  pos : Int
  dflt : Bool
  prio : Fig
  clauses : List Cla
  drop : Bool
  port : Fig

def wSrc : List UInt8 := [115, 114, 99]
def wDst : List UInt8 := [100, 115, 116]
def wSport : List UInt8 := [115, 112, 111, 114, 116]
def wDport : List UInt8 := [100, 112, 111, 114, 116]
def wProto : List UInt8 := [112, 114, 111, 116, 111]
def wDefault : List UInt8 := [100, 101, 102, 97, 117, 108, 116]
def wDrop : List UInt8 := [100, 114, 111, 112]
def wPort : List UInt8 := [112, 111, 114, 116]
def isAddrW (w : List UInt8) : Bool := w == wSrc || w == wDst
def isPortW (w : List UInt8) : Bool := w == wSport || w == wDport

abbrev Res (α : Type) := Except (Nat × Nat) α

/-- Where the token at hand begins, or the text ends. -/
def posOf (E : Nat) : List Tok → Nat
  | [] => E
  | t :: _ => t.pos
/-- A token of a kind. -/
def takeK (E k : Nat) : List Tok → Res (Tok × List Tok)
  | [] => .error (8, E)
  | t :: T => if t.kind = k then .ok (t, T) else .error (8, t.pos)
/-- A number. -/
def takeF (E : Nat) (T : List Tok) : Res (Fig × List Tok) := (takeK E 2 T).map fun x => (⟨(x.1.num : Int), (x.1.pos : Int)⟩, x.2)
/-- So many numbers more, with a Dot ahead of each. -/
def takeD (E : Nat) : Nat → List Tok → Res (List Fig × List Tok)
  | 0, T => .ok ([], T)
  | n + 1, T => (takeK E 3 T).bind fun x => (takeF E x.2).bind fun y => (takeD E n y.2).map fun z => (y.1 :: z.1, z.2)
/-- Perhaps a sign and a number. -/
def takeO (E k : Nat) : List Tok → Res (Option Fig × List Tok)
  | [] => .ok (none, [])
  | t :: T => if t.kind = k then (takeF E T).map fun y => (some y.1, y.2) else .ok (none, t :: T)
/-- A clause, its word being the token at hand. -/
def takeC (E : Nat) (had : List Cla) (t : Tok) (T : List Tok) : Res (Cla × List Tok) :=
  if !(isAddrW t.text) && !(isPortW t.text) && !(t.text == wProto) then .error (8, t.pos)
  else if had.any (fun c => c.word == t.text) then .error (9, t.pos)
  else (takeF E T).bind fun x =>
    if isAddrW t.text then (takeD E 3 x.2).bind fun y => (takeO E 4 y.2).map fun z => (⟨t.text, (t.pos : Int), x.1 :: y.1 ++ z.1.toList, z.1.isSome, false⟩, z.2)
    else if isPortW t.text then (takeO E 5 x.2).map fun z => (⟨t.text, (t.pos : Int), x.1 :: z.1.toList, false, z.1.isSome⟩, z.2)
    else .ok (⟨t.text, (t.pos : Int), [x.1], false, false⟩, x.2)
/-- Clauses, as many as there are (so many at most). -/
def takeCs (E : Nat) : Nat → List Cla → List Tok → Res (List Cla × List Tok)
  | 0, had, T => .ok (had, T)
  | _ + 1, had, [] => .ok (had, [])
  | f + 1, had, t :: T => if t.kind = 1 then (takeC E had t T).bind fun x => takeCs E f (had ++ [x.1]) x.2 else .ok (had, t :: T)
/-- What is done: the word 'drop', or 'port' and a number. -/
def takeA (E : Nat) : List Tok → Res ((Bool × Fig) × List Tok)
  | [] => .error (8, E)
  | t :: T => if t.kind = 1 ∧ t.text = wDrop then .ok ((true, ⟨0, 0⟩), T) else if t.kind = 1 ∧ t.text = wPort then (takeF E T).map fun x => ((false, x.1), x.2) else .error (8, t.pos)
/-- The end of a line, which is not taken. -/
def takeE : List Tok → Res (List Tok)
  | [] => .ok []
  | t :: T => if t.kind = 7 then .ok (t :: T) else .error (8, t.pos)
/-- What stands ahead of the Arrow. -/
def takeH (E : Nat) : List Tok → Res ((Bool × Fig × List Cla) × List Tok)
  | [] => .error (8, E)
  | t :: T => if t.kind = 1 ∧ t.text = wDefault then .ok ((true, ⟨0, 0⟩, []), T) else (takeF E (t :: T)).bind fun x => (takeCs E x.2.length [] x.2).map fun y => ((false, x.1, y.1), y.2)
/-- A line. -/
def takeR (E : Nat) (T : List Tok) : Res (Raw × List Tok) :=
  (takeH E T).bind fun x => (takeK E 6 x.2).bind fun y => (takeA E y.2).bind fun z => (takeE z.2).map fun u => (⟨(posOf E T : Int), x.1.1, x.1.2.1, x.1.2.2, z.1.1, z.1.2⟩, u)
/-- Lines (so many steps at most). -/
def takeL (E : Nat) : Nat → List Raw → List Tok → Res (List Raw)
  | 0, had, _ => .ok had
  | _ + 1, had, [] => .ok had
  | f + 1, had, t :: T => if t.kind = 7 then takeL E f had T else if had.length = 64 then .error (4, t.pos) else (takeR E (t :: T)).bind fun x => takeL E f (had ++ [x.1]) x.2
/-- A text's lines. -/
def parseT (S : List UInt8) : Res (List Raw) :=
  if 4096 < S.length then .error (5, 4096) else match lexW 0 S with
    | .error x => .error x
    | .ok T => takeL S.length (T.length + 1) [] T

/-- A number's digits. -/
def decF : Nat → Nat → List UInt8
  | 0, n => [UInt8.ofNat (48 + n % 10)]
  | f + 1, n => if n < 10 then [UInt8.ofNat (48 + n)] else decF f (n / 10) ++ [UInt8.ofNat (48 + n % 10)]
def dec (n : Nat) : List UInt8 := decF n n
def decI (n : Int) : List UInt8 := if 0 ≤ n then dec n.toNat else 45 :: dec (-n).toNat
/-- Numbers with a sign between. -/
def numsP (last : UInt8) : List Fig → List UInt8
  | [] => []
  | [x] => last :: decI x.n
  | x :: y :: l => 46 :: decI x.n ++ numsP last (y :: l)
def lastSign (c : Cla) : UInt8 := if c.slash then 47 else if c.dash then 45 else 46
def numsAll (c : Cla) : List UInt8 := match c.nums with
  | [] => []
  | x :: l => decI x.n ++ numsP (lastSign c) l
def claP (c : Cla) : List UInt8 := 32 :: c.word ++ (32 :: numsAll c)
def headP (x : Raw) : List UInt8 := (if x.dflt then wDefault else decI x.prio.n) ++ x.clauses.flatMap claP
def actP (x : Raw) : List UInt8 := if x.drop then wDrop else wPort ++ (32 :: decI x.port.n)
def rowP (x : Raw) : List UInt8 := headP x ++ ([32, 45, 62, 32] ++ (actP x ++ [10]))
def printT (l : List Raw) : List UInt8 := l.flatMap rowP
end Go.Proofs.YtnbklmmampdbfaaDoor
namespace Go.Proofs.YtnbklmmampdbfaaDoor
open Go.ChangeShapes Go.WideShapes Go.ChangeAt Go.WideMaps Go.WideElems Go.RowKit
set_option maxRecDepth 20000

def figV (f : Fig) : Array Value := #[.int .i64 f.n, .int .i64 f.pos]
def claV (c : Cla) (u : Value) : Array Value := #[.string ⟨c.word.toArray⟩, .int .i64 c.pos, u, .bool c.slash, .bool c.dash]
def rawV (x : Raw) (u : Value) : Array Value := #[.int .i64 x.pos, .bool x.dflt, .int .i64 x.prio.n, .int .i64 x.prio.pos, u, .bool x.drop, .int .i64 x.port.n, .int .i64 x.port.pos]
def FigE : El := ⟨67, 98, 2, 16, #[.int .i64 0, .int .i64 0]⟩
def ClaE : El := ⟨100, 68, 5, 56, #[.string ⟨#[]⟩, .int .i64 0, .slice none 0 0, .bool false, .bool false]⟩
def RawE : El := ⟨70, 50, 8, 80, #[.int .i64 0, .bool false, .int .i64 0, .int .i64 0, .slice none 0 0, .bool false, .int .i64 0, .int .i64 0]⟩
theorem FigOk : FigE.Ok := ⟨Tryd.underlying98, ⟨_, Tryd.underlying67, rfl⟩, by kernel_rfl, rfl, by decide, by decide, by decide⟩
theorem ClaOk : ClaE.Ok := ⟨Tryd.underlying68, ⟨_, Tryd.underlying100, rfl⟩, by kernel_rfl, rfl, by decide, by decide, by decide⟩
theorem RawOk : RawE.Ok := ⟨Tryd.underlying50, ⟨_, Tryd.underlying70, rfl⟩, by kernel_rfl, rfl, by decide, by decide, by decide⟩
theorem fig_fits (f : Fig) : Fits FigE (figV f) := ⟨rfl, by simp [figV, Value.oneCell']⟩

/-- A clause's numbers, a line's clauses, the lines, as they lie in memory. -/
def FigsAt (w : World) (c : Cla) (u : Value) : Prop := GSl FigE figV w u c.nums
def ClasAt (w : World) (x : Raw) (u : Value) : Prop := NSl ClaE claV FigsAt w u x.clauses
def RawsAt (w : World) (v : Value) (l : List Raw) : Prop := NSl RawE rawV ClasAt w v l
theorem figs_below (w w' : World) (c : Cla) (u : Value) (hb : Below w.heap.size w w') (h : FigsAt w c u) : FigsAt w' c u := GSl.below h hb
theorem clas_below (w w' : World) (x : Raw) (u : Value) (hb : Below w.heap.size w w') (h : ClasAt w x u) : ClasAt w' x u := NSl.below figs_below h hb
theorem raws_below {w w' : World} {v : Value} {l : List Raw} (h : RawsAt w v l) (hb : Below w.heap.size w w') : RawsAt w' v l := NSl.below clas_below h hb

theorem fig_of {H : Type} {enc : TypeId × Value → H} {W : World} {base : Nat} {spare : Nat → Bool} {held : Bool} (fuel : Nat) (cs : List Value) (x : DataW H × List MemPlace) (hl : cs.length = 2)
    (h : DataW.trod enc Tryd.prog W base spare held fuel 67 cs = some x) : ∃ f : Fig, cs = (figV f).toList ∧ (Lit.int .i64 f.n).wf = true := by
  have c3 : Tryd.prog.cellsOf 3 = 1 := by kernel_rfl
  obtain ⟨xs, n, _, _, _, hxl, hf⟩ := DataW.trod_struct Tryd.underlying67 h
  obtain ⟨k, h0, w0⟩ := field_int Tryd.underlying3 c3 (hf 0 _ rfl) (xs_some hxl (by decide))
  obtain ⟨p, h1, _⟩ := field_int Tryd.underlying3 c3 (hf 1 _ rfl) (xs_some hxl (by decide))
  refine ⟨⟨k, p⟩, ?_, w0⟩
  match cs, hl with
  | [a, b], _ =>
    obtain rfl : a = .int .i64 k := by simpa using h0
    obtain rfl : b = .int .i64 p := by simpa using h1
    rfl
/-- What is asked of the numbers that come in. -/
def wfN (n : Int) : Prop := (Lit.int .i64 n).wf = true
theorem cla_of {H : Type} {enc : TypeId × Value → H} {W : World} {base : Nat} {spare : Nat → Bool} {held : Bool} (fuel : Nat) (cs : List Value) (x : DataW H × List MemPlace) (hl : cs.length = 5)
    (h : DataW.trod enc Tryd.prog W base spare held fuel 100 cs = some x) : ∃ c : Cla × Value, cs = (claV c.1 c.2).toList ∧ (FigsAt W c.1 c.2 ∧ c.1.word.length ≤ maxLen ∧ ∀ f ∈ c.1.nums, wfN f.n) := by
  have c3 : Tryd.prog.cellsOf 3 = 1 := by kernel_rfl
  have c4 : Tryd.prog.cellsOf 4 = 1 := by kernel_rfl
  have c9 : Tryd.prog.cellsOf 9 = 1 := by kernel_rfl
  have cf : Tryd.prog.cellsOf 98 = 1 := by kernel_rfl
  obtain ⟨xs, n, _, _, _, hxl, hf⟩ := DataW.trod_struct Tryd.underlying100 h
  obtain ⟨t, h0, hs⟩ := field_string Tryd.underlying9 c9 (hf 0 _ rfl) (xs_some hxl (by decide))
  obtain ⟨p, h1, _⟩ := field_int Tryd.underlying3 c3 (hf 1 _ rfl) (xs_some hxl (by decide))
  obtain ⟨v, y, h2, hv⟩ := field_slice Tryd.underlying98 cf (hf 2 _ rfl) (xs_some hxl (by decide))
  obtain ⟨b1, h3⟩ := field_bool Tryd.underlying4 c4 (hf 3 _ rfl) (xs_some hxl (by decide))
  obtain ⟨b2, h4⟩ := field_bool Tryd.underlying4 c4 (hf 4 _ rfl) (xs_some hxl (by decide))
  have hin : Inhabited Fig := ⟨⟨0, 0⟩⟩
  obtain ⟨C, hC, hq⟩ := open_any (E := FigE) FigOk figV (fun _ => rfl) (fun f => wfN f.n) fig_of hv
  refine ⟨(⟨t.data.toList, p, C, b1, b2⟩, v), ?_, hC, by show t.data.toList.length ≤ maxLen; simpa using hs, hq⟩
  match cs, hl with
  | [a, b, c, d, e], _ =>
    obtain rfl : a = .string t := by simpa using h0
    obtain rfl : b = .int .i64 p := by simpa using h1
    obtain rfl : c = v := by simpa using h2
    obtain rfl : d = .bool b1 := by simpa using h3
    obtain rfl : e = .bool b2 := by simpa using h4
    rfl
theorem raw_of {H : Type} {enc : TypeId × Value → H} {W : World} {base : Nat} {spare : Nat → Bool} {held : Bool} (fuel : Nat) (cs : List Value) (x : DataW H × List MemPlace) (hl : cs.length = 8)
    (h : DataW.trod enc Tryd.prog W base spare held fuel 70 cs = some x) : ∃ c : Raw × Value, cs = (rawV c.1 c.2).toList ∧ (ClasAt W c.1 c.2 ∧ wfN c.1.prio.n ∧ wfN c.1.port.n ∧ ∀ d ∈ c.1.clauses, d.word.length ≤ maxLen ∧ ∀ f ∈ d.nums, wfN f.n) := by
  have c3 : Tryd.prog.cellsOf 3 = 1 := by kernel_rfl
  have c4 : Tryd.prog.cellsOf 4 = 1 := by kernel_rfl
  have cc : Tryd.prog.cellsOf 68 = 1 := by kernel_rfl
  have cfig : Tryd.prog.cellsOf 67 = 2 := by kernel_rfl
  obtain ⟨xs, n, _, _, _, hxl, hf⟩ := DataW.trod_struct Tryd.underlying70 h
  obtain ⟨p, h0, _⟩ := field_int Tryd.underlying3 c3 (hf 0 _ rfl) (xs_some hxl (by decide))
  obtain ⟨b1, h1⟩ := field_bool Tryd.underlying4 c4 (hf 1 _ rfl) (xs_some hxl (by decide))
  have g2 : DataW.trod enc Tryd.prog W base spare held n 67 ((cs.drop 2).take (Tryd.prog.cellsOf 67)) = xs[2]? := hf 2 _ rfl
  obtain ⟨y2, e2⟩ := Option.isSome_iff_exists.1 (xs_some (i := 2) hxl (by decide))
  rw [e2, cfig] at g2
  obtain ⟨pr, h2, w2⟩ := fig_of _ _ _ (by simp [hl]) g2
  obtain ⟨v, y, h3, hv⟩ := field_slice Tryd.underlying68 cc (hf 3 _ rfl) (xs_some hxl (by decide))
  obtain ⟨b2, h4⟩ := field_bool Tryd.underlying4 c4 (hf 4 _ rfl) (xs_some hxl (by decide))
  have g5 : DataW.trod enc Tryd.prog W base spare held n 67 ((cs.drop 6).take (Tryd.prog.cellsOf 67)) = xs[5]? := hf 5 _ rfl
  obtain ⟨y5, e5⟩ := Option.isSome_iff_exists.1 (xs_some (i := 5) hxl (by decide))
  rw [e5, cfig] at g5
  obtain ⟨po, h5, w5⟩ := fig_of _ _ _ (by simp [hl]) g5
  have hin : Inhabited (Cla × Value) := ⟨(⟨[], 0, [], false, false⟩, undef)⟩
  obtain ⟨C, hC, hq⟩ := open_any (E := ClaE) ClaOk (fun q : Cla × Value => claV q.1 q.2) (fun _ => rfl) (fun q => FigsAt W q.1 q.2 ∧ q.1.word.length ≤ maxLen ∧ ∀ f ∈ q.1.nums, wfN f.n) cla_of hv
  refine ⟨(⟨p, b1, pr, C.map (·.1), b2, po⟩, v), ?_, ⟨C, rfl, hC, fun q hq' => (hq q hq').1⟩, w2, w5, fun d hd => ?_⟩
  · match cs, hl with
    | [a0, a1, a2, a3, a4, a5, a6, a7], _ =>
      obtain rfl : a0 = .int .i64 p := by simpa using h0
      obtain rfl : a1 = .bool b1 := by simpa using h1
      obtain ⟨rfl, rfl⟩ : a2 = .int .i64 pr.n ∧ a3 = .int .i64 pr.pos := by simpa [figV] using h2
      obtain rfl : a4 = v := by simpa using h3
      obtain rfl : a5 = .bool b2 := by simpa using h4
      obtain ⟨rfl, rfl⟩ : a6 = .int .i64 po.n ∧ a7 = .int .i64 po.pos := by simpa [figV] using h5
      rfl
  · obtain ⟨q, hq', rfl⟩ := List.mem_map.1 hd
    exact (hq q hq').2
/-- Lines that come in. -/
theorem open_raws {H : Type} {enc : TypeId × Value → H} {W : World} {r : Reach} {b0 base : Nat} {spare : Nat → Bool} {held : Bool} {v : Value} {d : DataW H} {p : List MemPlace}
    (hok : Value.okWide Tryd.prog W r b0 50 v) (h : DataW.Trod enc Tryd.prog W base spare held 50 v d p) :
    ∃ l, RawsAt W v l ∧ ∀ x ∈ l, wfN x.prio.n ∧ wfN x.port.n ∧ ∀ d ∈ x.clauses, d.word.length ≤ maxLen ∧ ∀ f ∈ d.nums, wfN f.n := by
  obtain ⟨fuel, hf⟩ := h
  have hv1 : v.cells.toList = [v] := by
    simp only [Value.okWide, Cell.okWide, Cell.ok, Tryd.underlying50] at hok
    cases v <;> simp_all [Value.cells]
  rw [hv1] at hf
  have hin : Inhabited (Raw × Value) := ⟨(⟨0, false, ⟨0, 0⟩, [], false, ⟨0, 0⟩⟩, undef)⟩
  obtain ⟨C, hC, hq⟩ := open_any (E := RawE) RawOk (fun q : Raw × Value => rawV q.1 q.2) (fun _ => rfl) (fun q => ClasAt W q.1 q.2 ∧ wfN q.1.prio.n ∧ wfN q.1.port.n ∧ ∀ d ∈ q.1.clauses, d.word.length ≤ maxLen ∧ ∀ f ∈ d.nums, wfN f.n) raw_of hf
  refine ⟨C.map (·.1), ⟨C, rfl, hC, fun q hq' => (hq q hq').1⟩, fun x hx => ?_⟩
  obtain ⟨q, hq', rfl⟩ := List.mem_map.1 hx
  exact (hq q hq').2
end Go.Proofs.YtnbklmmampdbfaaDoor
namespace Go.Proofs.YtnbklmmampdbfaaDoor
open Go Go.RowKit
set_option maxRecDepth 20000

theorem isBit_yes (i : Int) (w : World) (h0 : 0 ≤ i) (h1 : i < 104) :
    Calls Tryd.prog 106 #[.int .i64 i] w fun e w' => e = .returned (.bool true) ∧ w' = w := by
  go_enter Tryd.func106, Tryd.ntmps106
  go_wp2
  go_ret
  exact ⟨ret_bool (by simp), rfl⟩
theorem isBit_no (i : Int) (w : World) (h : ¬ (0 ≤ i ∧ i < 104)) :
    Calls Tryd.prog 106 #[.int .i64 i] w fun e w' => e = .returned (.bool false) ∧ w' = w := by
  by_cases h0 : 0 ≤ i
  · have h1 : 104 ≤ i := by omega
    go_enter Tryd.func106, Tryd.ntmps106
    go_wp2
    go_ret
    exact ⟨ret_bool (by simp; omega), rfl⟩
  · go_enter Tryd.func106, Tryd.ntmps106
    go_wp2
    go_ret
    exact ⟨ret_bool (by simp), rfl⟩

theorem sieve_any (i : Int) (w : World) (h0 : 0 ≤ i) (h1 : i < 104) :
    Calls Tryd.prog 107 #[.int .i64 i] w fun e w' => e = .returned (.int .u8 (128 / 2 ^ (i % 8).toNat)) ∧ w' = w := by
  go_enter Tryd.func107, Tryd.ntmps107
  go_wp2
  go_ret
  exact ⟨rfl, rfl⟩

set_option maxRecDepth 100000 in
theorem and_fin : ∀ x : Fin 256, ∀ j : Fin 8, (bits .and .u8 (x.val : Int) (128 / 2 ^ j.val) != 0) = ((x.val : Int) / 2 ^ (7 - j.val) % 2 == 1) := by decide +kernel
set_option maxRecDepth 100000 in
theorem xor_fin : ∀ x : Fin 256, ∀ j : Fin 8, bits .xor .u8 (bits .xor .u8 (x.val : Int) (128 / 2 ^ j.val)) (128 / 2 ^ j.val) = (x.val : Int) ∧ bits .xor .u8 (x.val : Int) (128 / 2 ^ j.val) ≠ (x.val : Int) ∧ 0 ≤ bits .xor .u8 (x.val : Int) (128 / 2 ^ j.val) ∧ bits .xor .u8 (x.val : Int) (128 / 2 ^ j.val) < 256 := by decide +kernel
set_option maxRecDepth 100000 in
theorem turn_fin : ∀ x : Fin 256, ∀ j : Fin 8, ∀ k : Fin 8, (bits .xor .u8 (x.val : Int) (128 / 2 ^ j.val) / 2 ^ (7 - k.val) % 2 == 1) = (((x.val : Int) / 2 ^ (7 - k.val) % 2 == 1) != decide (j = k)) := by decide +kernel

theorem and_bit (x i : Int) (hb0 : 0 ≤ x) (hb1 : x < 256) : (bits .and .u8 x (128 / 2 ^ (i % 8).toNat) != 0) = (x / 2 ^ (7 - i % 8).toNat % 2 == 1) := by
  have h := and_fin ⟨x.toNat, by omega⟩ ⟨(i % 8).toNat, by omega⟩
  simp only [] at h
  rw [show ((x.toNat : Nat) : Int) = x by omega, show 7 - (i % 8).toNat = (7 - i % 8).toNat by omega] at h
  exact h

def byteAt (L : List Int) (i : Int) : Int := L.getD (i / 8).toNat 0
def bitB (L : List Int) (i : Int) : Bool := decide (0 ≤ i ∧ i < 104) && (byteAt L i / 2 ^ (7 - i % 8).toNat % 2 == 1)

set_option maxHeartbeats 400000 in
theorem refBit_any (L : List Int) (hL : Byt L) (i : Int) (w : World) :
    Calls Tryd.prog 40 #[.agg (hv L), .int .i64 i] w fun e w' => e = .returned (.bool (bitB L i)) ∧ Below w.heap.size w w' := by
  by_cases hin : 0 ≤ i ∧ i < 104
  · obtain ⟨h0, h1⟩ := hin
    obtain ⟨x, hx, hxe⟩ : ∃ x, (hv L)[(i / 8).toNat]? = some (.int .u8 x) ∧ x = byteAt L i := ⟨_, hv_at L hL.1 _ (by omega), rfl⟩
    have hb : 0 ≤ x ∧ x < 256 := by rw [hxe]; exact hL.2 _
    obtain ⟨hb0, hb1⟩ := hb
    have HX : Hid (x = byteAt L i) := hxe
    clear hxe
    go_enter Tryd.func40, Tryd.ntmps40
    go_wp2
    go_ret
    refine ⟨ret_bool ?_, (Below.refl _ _).alloc (Nat.le_refl _) _⟩
    rw [Int.tmod_eq_emod_of_nonneg (Int.ediv_nonneg hb0 (Int.pow_nonneg (by decide))), HX.out]
    simp [bitB, h0, h1]
  · by_cases h0 : i < 0
    · go_enter Tryd.func40, Tryd.ntmps40
      go_wp2
      go_ret
      exact ⟨ret_bool (by simp [bitB]; omega), (Below.refl _ _).alloc (Nat.le_refl _) _⟩
    · have h1 : 103 < i := by omega
      have h0' : 0 ≤ i := by omega
      go_enter Tryd.func40, Tryd.ntmps40
      go_wp2
      go_ret
      exact ⟨ret_bool (by simp [bitB]; omega), (Below.refl _ _).alloc (Nat.le_refl _) _⟩

set_option maxHeartbeats 400000 in
theorem bit_any (L : List Int) (hL : Byt L) (i : Int) (w : World) :
    Calls Tryd.prog 94 #[.agg (hv L), .int .i64 i] w fun e w' => e = .returned (.bool (bitB L i)) ∧ Below w.heap.size w w' := by
  by_cases hin : 0 ≤ i ∧ i < 104
  · obtain ⟨h0, h1⟩ := hin
    obtain ⟨x, hx, hxe⟩ : ∃ x, (hv L)[(i / 8).toNat]? = some (.int .u8 x) ∧ x = byteAt L i := ⟨_, hv_at L hL.1 _ (by omega), rfl⟩
    have hb : 0 ≤ x ∧ x < 256 := by rw [hxe]; exact hL.2 _
    obtain ⟨hb0, hb1⟩ := hb
    have HX : Hid (x = byteAt L i) := hxe
    clear hxe
    go_enter Tryd.func94, Tryd.ntmps94
    go_wp2
    go_quiet (first | (go_at_call 106; exact Calls.quiet_of_same (isBit_yes _ _ h0 h1)) | (go_at_call 107; exact Calls.quiet_of_same (sieve_any _ _ h0 h1)))
    go_wp2
    go_ret
    refine ⟨ret_bool ?_, below_drewN ((Below.refl _ _).alloc (Nat.le_refl _) _) _⟩
    rw [and_bit x i hb0 hb1, HX.out]
    simp [bitB, h0, h1]
  · go_enter Tryd.func94, Tryd.ntmps94
    go_wp2
    go_quiet (first | (go_at_call 106; exact Calls.quiet_of_same (isBit_no _ _ hin)))
    go_wp2
    go_ret
    exact ⟨ret_bool (by simp [bitB]; omega), below_drewN ((Below.refl _ _).alloc (Nat.le_refl _) _) _⟩

def flipL (L : List Int) (i : Int) : List Int := if 0 ≤ i ∧ i < 104 then L.set (i / 8).toNat (bits .xor .u8 (byteAt L i) (128 / 2 ^ (i % 8).toNat)) else L


end Go.Proofs.YtnbklmmampdbfaaDoor
namespace Go.Proofs.YtnbklmmampdbfaaDoor
open Go Go.RowKit
set_option maxRecDepth 20000

theorem still_of_quiet {P : Program} {ops : Array Oper} {w : World} {Q : Act → Prop} : ∀ (l : List Oper) (a : Act), wpQuiet P ops (fun w' => w' = w) Q l a → wpStill P ops w Q l a
  | [], _, h => h
  | o :: rest, a, h => by
    unfold wpQuiet at h
    unfold wpStill
    split at h
    · rename_i hw
      rw [if_pos hw]
      obtain ⟨v, h1, h2⟩ := h
      have h2' := still_of_quiet rest _ h2
      have h1' := h1 w rfl
      unfold Oper.quietAt at h1'
      unfold Oper.still
      revert h1'
      generalize (execOp a.eval o).run P w = r
      intro h1'
      match r, h1' with
      | .ok (.value u) w', ⟨e1, e2⟩ => exact ⟨e1, by rw [e2]; exact h2'⟩
      | .ok .skip w', ⟨e1, e2⟩ => exact ⟨e1, by rw [← e2]; exact h2'⟩
      | .ok (.enter f args) w', ⟨e1, e2⟩ => exact ⟨e1, v, e2, h2'⟩
    · rename_i hw
      rw [if_neg hw]
      exact still_of_quiet rest _ h

theorem wp_region_tail {P : Program} {id : Nat} {Q : Exit → Act → World → Prop} {a : Act} {w : World} {l : List Oper} (n : Nat) (hm : P.follows .mixedOrders = true) (hB : Region.lexTailB .any l.toArray n = true)
    (h : wpQuiet P l.toArray (fun w' => w' = w.drew) (fun a' => wpList P l.toArray Q (l.drop n) a' w.drew) (l.take n) a) : (Code.region id l.toArray true).wp P Q a w :=
  wp_region_still_tail n hm hB (still_of_quiet _ _ h)

theorem heap_drew {w : World} {g : Nat} {x : Obj} (h : w.heap[g]? = some x) : w.drew.heap[g]? = some x := h

theorem hv_set (L : List Int) (k : Nat) (v : Int) : (hv L).setIfInBounds k (.int .u8 v) = hv (L.set k v) := by
  unfold hv
  rw [List.setIfInBounds_toArray, ← List.map_set]

set_option maxHeartbeats 400000 in
theorem flip_in (L : List Int) (hL : Byt L) (i : Int) (w : World) (h0 : 0 ≤ i) (h1 : i < 104) :
    Calls Tryd.prog 109 #[.agg (hv L), .int .i64 i] w fun e w' => e = .returned (.agg (hv (flipL L i))) ∧ Below w.heap.size w w' := by
  obtain ⟨x, hx, hxe⟩ : ∃ x, (hv L)[(i / 8).toNat]? = some (.int .u8 x) ∧ x = byteAt L i := ⟨_, hv_at L hL.1 _ (by omega), rfl⟩
  have hb : 0 ≤ x ∧ x < 256 := by rw [hxe]; exact hL.2 _
  obtain ⟨hb0, hb1⟩ := hb
  have HX : Hid (x = byteAt L i) := hxe
  clear hxe
  go_enter Tryd.func109, Tryd.ntmps109
  go_wp2_with (first | (go_at_call 106; refine (isBit_yes _ _ h0 h1).mono ?_; rintro e w' ⟨rfl, rfl⟩))
  refine wp_region_tail 8 (by kernel_rfl) (by kernel_rfl) ?_
  simp only [List.take_succ_cons, List.take_zero, List.drop_succ_cons, List.drop_zero]
  go_big_quiet_step (fail)
  go_big_quiet_step (fail)
  go_big_quiet_step (fail)
  go_big_quiet_step (fail)
  go_big_quiet_step (fail)
  go_big_quiet_want; go_big_quiet_op
  refine ⟨_, sieve_any _ _ h0 h1, ?_⟩
  go_big_quiet_on
  go_big_quiet_step (fail)
  go_big_quiet_step (fail)
  refine wpQuiet_nil ?_
  have hL2 : (L.set (i / 8).toNat (bits .xor .u8 x (128 / 2 ^ (i % 8).toNat))).length = 13 := by rw [List.length_set]; exact hL.1
  go_wp2_with (first
    | (refine wl_load26 rfl _ rfl w.heap.size rfl (L.set (i / 8).toNat (bits .xor .u8 x (128 / 2 ^ (i % 8).toNat))) (heap_drew (by rw [← hv_set]; exact heap_past _ _ _ _ (heap_new _ _ _ rfl))) hL2 ?_)
    | (refine wl_store26 rfl _ _ rfl (w.heap.size + 1) (L.set (i / 8).toNat (bits .xor .u8 x (128 / 2 ^ (i % 8).toNat))) rfl rfl _ (heap_drew (heap_new _ _ _ (by simp))) rfl hL2 _ (by rw [setRow_drew, setRow_new _ _ _ _ _ (by simp)]) ?_))
  refine ret26 (p := 4) rfl rfl (w.heap.size + 1) rfl _ hL2 (heap_drew (heap_new _ _ _ (by simp))) ⟨?_, ?_⟩
  · rw [HX.out]; unfold flipL; rw [if_pos ⟨h0, h1⟩]
  · exact (((Below.refl _ _).alloc (Nat.le_refl _) _).alloc (by simp) _).drew

set_option maxHeartbeats 400000 in
theorem flip_no (L : List Int) (hL : Byt L) (i : Int) (w : World) (hin : ¬ (0 ≤ i ∧ i < 104)) :
    Calls Tryd.prog 109 #[.agg (hv L), .int .i64 i] w fun e w' => e = .returned (.agg (hv (flipL L i))) ∧ Below w.heap.size w w' := by
  have hf : flipL L i = L := by unfold flipL; rw [if_neg hin]
  rw [hf]
  clear hf
  go_enter Tryd.func109, Tryd.ntmps109
  go_wp2_with (first | (go_at_call 106; refine (isBit_no _ _ hin).mono ?_; rintro e w' ⟨rfl, rfl⟩) | (refine wl_load26 rfl _ rfl w.heap.size rfl L (heap_past _ _ _ _ (heap_new _ _ _ rfl)) hL.1 ?_) | (refine wl_store26 rfl _ _ rfl (w.heap.size + 1) L rfl rfl _ (heap_new _ _ _ (by simp)) rfl hL.1 _ (setRow_new _ _ _ _ _ (by simp)) ?_))
  refine ret26 (p := 4) rfl rfl (w.heap.size + 1) rfl L hL.1 (heap_new _ _ _ (by simp)) ⟨rfl, ?_⟩
  exact ((Below.refl _ _).alloc (Nat.le_refl _) _).alloc (by simp) _

theorem flip_any (L : List Int) (hL : Byt L) (i : Int) (w : World) :
    Calls Tryd.prog 109 #[.agg (hv L), .int .i64 i] w fun e w' => e = .returned (.agg (hv (flipL L i))) ∧ Below w.heap.size w w' := by
  by_cases hin : 0 ≤ i ∧ i < 104
  · exact flip_in L hL i w hin.1 hin.2
  · exact flip_no L hL i w hin
end Go.Proofs.YtnbklmmampdbfaaDoor
namespace Go.Proofs.YtnbklmmampdbfaaDoor
open Go Go.RowKit
set_option maxRecDepth 20000

theorem getD_set (L : List Int) (j k : Nat) (v : Int) (hj : j < L.length) : (L.set j v).getD k 0 = if j = k then v else L.getD k 0 := by
  simp only [List.getD, List.getElem?_set]
  by_cases h : j = k
  · subst h; simp [hj]
  · simp [h]

theorem xor_byte (x i : Int) (hx : 0 ≤ x ∧ x < 256) : bits .xor .u8 (bits .xor .u8 x (128 / 2 ^ (i % 8).toNat)) (128 / 2 ^ (i % 8).toNat) = x ∧ bits .xor .u8 x (128 / 2 ^ (i % 8).toNat) ≠ x ∧ 0 ≤ bits .xor .u8 x (128 / 2 ^ (i % 8).toNat) ∧ bits .xor .u8 x (128 / 2 ^ (i % 8).toNat) < 256 := by
  have h := xor_fin ⟨x.toNat, by omega⟩ ⟨(i % 8).toNat, by omega⟩
  simp only [] at h
  rw [show ((x.toNat : Nat) : Int) = x by omega] at h
  exact h
theorem turn_byte (x i k : Int) (hx : 0 ≤ x ∧ x < 256) : (bits .xor .u8 x (128 / 2 ^ (i % 8).toNat) / 2 ^ (7 - k % 8).toNat % 2 == 1) = ((x / 2 ^ (7 - k % 8).toNat % 2 == 1) != decide (i % 8 = k % 8)) := by
  have h := turn_fin ⟨x.toNat, by omega⟩ ⟨(i % 8).toNat, by omega⟩ ⟨(k % 8).toNat, by omega⟩
  simp only [Fin.mk.injEq] at h
  rw [show ((x.toNat : Nat) : Int) = x by omega, show 7 - (k % 8).toNat = (7 - k % 8).toNat by omega] at h
  rw [h]
  congr 1
  rw [decide_eq_decide]
  omega

theorem flip_byt (L : List Int) (hL : Byt L) (i : Int) : Byt (flipL L i) := by
  unfold flipL
  split
  · rename_i h
    refine ⟨by rw [List.length_set]; exact hL.1, fun k => ?_⟩
    rw [getD_set _ _ _ _ (by rw [hL.1]; omega)]
    split
    · exact ⟨(xor_byte (byteAt L i) i (hL.2 _)).2.2.1, (xor_byte (byteAt L i) i (hL.2 _)).2.2.2⟩
    · exact hL.2 k
  · exact hL

theorem flip_flip (L : List Int) (hL : Byt L) (i : Int) : flipL (flipL L i) i = L := by
  by_cases h : 0 ≤ i ∧ i < 104
  · have hlt : (i / 8).toNat < L.length := by rw [hL.1]; omega
    have hb : byteAt (L.set (i / 8).toNat (bits .xor .u8 (byteAt L i) (128 / 2 ^ (i % 8).toNat))) i = bits .xor .u8 (byteAt L i) (128 / 2 ^ (i % 8).toNat) := by
      unfold byteAt; rw [getD_set _ _ _ _ hlt, if_pos rfl]
    unfold flipL
    rw [if_pos h, if_pos h, hb, (xor_byte (byteAt L i) i (hL.2 _)).1, List.set_set]
    apply List.ext_getElem (by simp)
    intro k h1 h2
    rw [List.getElem_set]
    split
    · rename_i e; subst e
      simp [byteAt, List.getD, hlt]
    · rfl
  · unfold flipL; rw [if_neg h, if_neg h]

theorem flip_ne (L : List Int) (hL : Byt L) (i : Int) : decide (0 ≤ i ∧ i < 104) = (flipL L i != L) := by
  by_cases h : 0 ≤ i ∧ i < 104
  · have hlt : (i / 8).toNat < L.length := by rw [hL.1]; omega
    have hne : flipL L i ≠ L := by
      intro e
      have h1 : byteAt (flipL L i) i = byteAt L i := by rw [e]
      unfold flipL at h1
      rw [if_pos h] at h1
      have hb : byteAt (L.set (i / 8).toNat (bits .xor .u8 (byteAt L i) (128 / 2 ^ (i % 8).toNat))) i = bits .xor .u8 (byteAt L i) (128 / 2 ^ (i % 8).toNat) := by
        unfold byteAt; rw [getD_set _ _ _ _ hlt, if_pos rfl]
      rw [hb] at h1
      exact (xor_byte (byteAt L i) i (hL.2 _)).2.1 h1
    rw [decide_eq_true h]
    simp [hne]
  · unfold flipL; rw [if_neg h, decide_eq_false h]; simp

theorem flip_bit (L : List Int) (hL : Byt L) (i k : Int) : bitB (flipL L i) k = (bitB L k != (decide (0 ≤ i ∧ i < 104) && decide (i = k))) := by
  by_cases h : 0 ≤ i ∧ i < 104
  · rw [decide_eq_true h]
    unfold flipL
    rw [if_pos h]
    by_cases hk : 0 ≤ k ∧ k < 104
    · have hlt : (i / 8).toNat < L.length := by rw [hL.1]; omega
      unfold bitB
      rw [decide_eq_true hk]
      simp only [Bool.true_and]
      unfold byteAt
      rw [getD_set _ _ _ _ hlt]
      by_cases e : (i / 8).toNat = (k / 8).toNat
      · rw [if_pos e]
        have := turn_byte (L.getD (i / 8).toNat 0) i k (hL.2 _)
        rw [this, ← e]
        congr 1
        rw [decide_eq_decide]; omega
      · rw [if_neg e, decide_eq_false (show ¬ i = k by rintro rfl; exact e rfl)]
        simp
    · unfold bitB
      rw [decide_eq_false hk, decide_eq_false (show ¬ i = k by rintro rfl; exact hk h)]
      simp
  · unfold flipL; rw [if_neg h, decide_eq_false h]; simp
end Go.Proofs.YtnbklmmampdbfaaDoor
namespace Go.Proofs.YtnbklmmampdbfaaDoor
open Go Go.RowKit
set_option maxRecDepth 20000

abbrev zero26 : Array Value := #[.int .u8 0, .int .u8 0, .int .u8 0, .int .u8 0, .int .u8 0, .int .u8 0, .int .u8 0, .int .u8 0, .int .u8 0, .int .u8 0, .int .u8 0, .int .u8 0, .int .u8 0]

/-- The header with a bit set as the reference sets it. -/
def setB (L : List Int) (i : Int) (b : Bool) : List Int :=
  if bitB L i = b then L else if b then L.set (i / 8).toNat (byteAt L i + 128 / 2 ^ (i % 8).toNat) else L.set (i / 8).toNat (byteAt L i - 128 / 2 ^ (i % 8).toNat)

set_option maxRecDepth 100000 in
theorem up_fin : ∀ x : Fin 256, ∀ j : Fin 8, ((x.val : Int) / 2 ^ (7 - j.val) % 2 == 1) = false → (x.val : Int) + 128 / 2 ^ j.val < 256 ∧ ∀ k : Fin 8, (((x.val : Int) + 128 / 2 ^ j.val) / 2 ^ (7 - k.val) % 2 == 1) = if k = j then true else ((x.val : Int) / 2 ^ (7 - k.val) % 2 == 1) := by decide +kernel
set_option maxRecDepth 100000 in
theorem down_fin : ∀ x : Fin 256, ∀ j : Fin 8, ((x.val : Int) / 2 ^ (7 - j.val) % 2 == 1) = true → 0 ≤ (x.val : Int) - 128 / 2 ^ j.val ∧ ∀ k : Fin 8, (((x.val : Int) - 128 / 2 ^ j.val) / 2 ^ (7 - k.val) % 2 == 1) = if k = j then false else ((x.val : Int) / 2 ^ (7 - k.val) % 2 == 1) := by decide +kernel

theorem up_byte (x i : Int) (hx : 0 ≤ x ∧ x < 256) (h : (x / 2 ^ (7 - i % 8).toNat % 2 == 1) = false) : x + 128 / 2 ^ (i % 8).toNat < 256 ∧ ∀ k : Int, ((x + 128 / 2 ^ (i % 8).toNat) / 2 ^ (7 - k % 8).toNat % 2 == 1) = if k % 8 = i % 8 then true else (x / 2 ^ (7 - k % 8).toNat % 2 == 1) := by
  have hh := up_fin ⟨x.toNat, by omega⟩ ⟨(i % 8).toNat, by omega⟩
  simp only [show ((x.toNat : Nat) : Int) = x by omega, show 7 - (i % 8).toNat = (7 - i % 8).toNat by omega] at hh
  obtain ⟨h1, h2⟩ := hh h
  refine ⟨h1, fun k => ?_⟩
  have h3 := h2 ⟨(k % 8).toNat, by omega⟩
  simp only [Fin.mk.injEq, show 7 - (k % 8).toNat = (7 - k % 8).toNat by omega] at h3
  rw [h3]
  by_cases e : k % 8 = i % 8
  · rw [if_pos (by rw [e]), if_pos e]
  · rw [if_neg (by omega), if_neg e]
theorem down_byte (x i : Int) (hx : 0 ≤ x ∧ x < 256) (h : (x / 2 ^ (7 - i % 8).toNat % 2 == 1) = true) : 0 ≤ x - 128 / 2 ^ (i % 8).toNat ∧ ∀ k : Int, ((x - 128 / 2 ^ (i % 8).toNat) / 2 ^ (7 - k % 8).toNat % 2 == 1) = if k % 8 = i % 8 then false else (x / 2 ^ (7 - k % 8).toNat % 2 == 1) := by
  have hh := down_fin ⟨x.toNat, by omega⟩ ⟨(i % 8).toNat, by omega⟩
  simp only [show ((x.toNat : Nat) : Int) = x by omega, show 7 - (i % 8).toNat = (7 - i % 8).toNat by omega] at hh
  obtain ⟨h1, h2⟩ := hh h
  refine ⟨h1, fun k => ?_⟩
  have h3 := h2 ⟨(k % 8).toNat, by omega⟩
  simp only [Fin.mk.injEq, show 7 - (k % 8).toNat = (7 - k % 8).toNat by omega] at h3
  rw [h3]
  by_cases e : k % 8 = i % 8
  · rw [if_pos (by rw [e]), if_pos e]
  · rw [if_neg (by omega), if_neg e]
theorem sieve_pos (i : Int) : 0 ≤ (128 : Int) / 2 ^ (i % 8).toNat ∧ (128 : Int) / 2 ^ (i % 8).toNat ≤ 128 := by
  have : ∀ j : Fin 8, 0 ≤ (128 : Int) / 2 ^ j.val ∧ (128 : Int) / 2 ^ j.val ≤ 128 := by decide
  exact this ⟨(i % 8).toNat, by omega⟩

theorem bitB_in (L : List Int) (i : Int) (h0 : 0 ≤ i) (h1 : i < 104) : bitB L i = (byteAt L i / 2 ^ (7 - i % 8).toNat % 2 == 1) := by
  unfold bitB; rw [decide_eq_true ⟨h0, h1⟩, Bool.true_and]

theorem setB_bit (L : List Int) (hL : Byt L) (i : Int) (b : Bool) (h0 : 0 ≤ i) (h1 : i < 104) :
    Byt (setB L i b) ∧ ∀ k, 0 ≤ k → k < 104 → bitB (setB L i b) k = if k = i then b else bitB L k := by
  have hlt : (i / 8).toNat < L.length := by rw [hL.1]; omega
  have hx : 0 ≤ byteAt L i ∧ byteAt L i < 256 := hL.2 _
  have hs := sieve_pos i
  by_cases e : bitB L i = b
  · have es : setB L i b = L := by unfold setB; rw [if_pos e]
    rw [es]
    refine ⟨hL, fun k _ _ => ?_⟩
    by_cases ek : k = i
    · rw [if_pos ek, ek, e]
    · rw [if_neg ek]
  · cases b
    · have hbt : (byteAt L i / 2 ^ (7 - i % 8).toNat % 2 == 1) = true := by
        rw [← bitB_in L i h0 h1]; cases h : bitB L i
        · exact absurd h e
        · rfl
      have es : setB L i false = L.set (i / 8).toNat (byteAt L i - 128 / 2 ^ (i % 8).toNat) := by unfold setB; rw [if_neg e]; rfl
      obtain ⟨g1, g2⟩ := down_byte _ i hx hbt
      rw [es]
      refine ⟨⟨by rw [List.length_set]; exact hL.1, fun k => ?_⟩, fun k hk0 hk1 => ?_⟩
      · rw [getD_set _ _ _ _ hlt]; split
        · omega
        · exact hL.2 k
      · rw [bitB_in _ k hk0 hk1, bitB_in _ k hk0 hk1]
        unfold byteAt
        rw [getD_set _ _ _ _ hlt]
        by_cases ek : (i / 8).toNat = (k / 8).toNat
        · rw [if_pos ek]
          have g3 := g2 k
          unfold byteAt at g3
          rw [g3, ek]
          by_cases e2 : k = i
          · rw [if_pos e2, if_pos (by rw [e2])]
          · rw [if_neg e2, if_neg (by omega)]
        · rw [if_neg ek, if_neg (by rintro rfl; exact ek rfl)]
    · have hbt : (byteAt L i / 2 ^ (7 - i % 8).toNat % 2 == 1) = false := by
        rw [← bitB_in L i h0 h1]; cases h : bitB L i
        · rfl
        · exact absurd h e
      have es : setB L i true = L.set (i / 8).toNat (byteAt L i + 128 / 2 ^ (i % 8).toNat) := by unfold setB; rw [if_neg e]; rfl
      obtain ⟨g1, g2⟩ := up_byte _ i hx hbt
      rw [es]
      refine ⟨⟨by rw [List.length_set]; exact hL.1, fun k => ?_⟩, fun k hk0 hk1 => ?_⟩
      · rw [getD_set _ _ _ _ hlt]; split
        · omega
        · exact hL.2 k
      · rw [bitB_in _ k hk0 hk1, bitB_in _ k hk0 hk1]
        unfold byteAt
        rw [getD_set _ _ _ _ hlt]
        by_cases ek : (i / 8).toNat = (k / 8).toNat
        · rw [if_pos ek]
          have g3 := g2 k
          unfold byteAt at g3
          rw [g3, ek]
          by_cases e2 : k = i
          · rw [if_pos e2, if_pos (by rw [e2])]
          · rw [if_neg e2, if_neg (by omega)]
        · rw [if_neg ek, if_neg (by rintro rfl; exact ek rfl)]
end Go.Proofs.YtnbklmmampdbfaaDoor
namespace Go.Proofs.YtnbklmmampdbfaaDoor
open Go Go.RowKit
set_option maxRecDepth 20000

/-- A byte's bit, the highest first. -/
def yb (x : Int) (j : Nat) : Bool := x / 2 ^ (7 - j) % 2 == 1
/-- A header's bit. -/
def bt (L : List Int) (i : Nat) : Bool := yb (L.getD (i / 8) 0) (i % 8)

theorem yb_test (x : Int) (h : 0 ≤ x) (j : Nat) : yb x j = x.toNat.testBit (7 - j) := by
  unfold yb
  obtain ⟨n, rfl⟩ := Int.eq_ofNat_of_zero_le h
  rw [Nat.testBit_eq_decide_div_mod_eq, Bool.eq_iff_iff, beq_iff_eq, decide_eq_true_eq, Int.toNat_natCast]
  constructor
  · intro h; exact_mod_cast h
  · intro h; exact_mod_cast h

theorem bits_u8 (op : BinOp) (x y : Int) : 0 ≤ bits op .u8 x y ∧ bits op .u8 x y < 256 := by
  unfold bits
  simp only []
  rw [IntKind.wrap_u8]
  omega

theorem ofInt8 (x : Int) (h0 : 0 ≤ x) (h1 : x < 256) : (BitVec.ofInt 8 x).toNat = x.toNat := by
  rw [BitVec.toNat_ofInt]; omega

theorem and_nat (x y : Int) (hx : 0 ≤ x ∧ x < 256) (hy : 0 ≤ y ∧ y < 256) : (bits .and .u8 x y).toNat = x.toNat &&& y.toNat := by
  have e : bits .and .u8 x y = ((BitVec.ofInt 8 x &&& BitVec.ofInt 8 y).toNat : Int) % 256 := by
    unfold bits
    simp only []
    rw [IntKind.wrap_u8]
    rfl
  rw [e, BitVec.toNat_and, ofInt8 x hx.1 hx.2, ofInt8 y hy.1 hy.2]
  have := Nat.and_lt_two_pow (n := 8) x.toNat (y := y.toNat) (by omega)
  omega
theorem or_nat (x y : Int) (hx : 0 ≤ x ∧ x < 256) (hy : 0 ≤ y ∧ y < 256) : (bits .or .u8 x y).toNat = x.toNat ||| y.toNat := by
  have e : bits .or .u8 x y = ((BitVec.ofInt 8 x ||| BitVec.ofInt 8 y).toNat : Int) % 256 := by
    unfold bits
    simp only []
    rw [IntKind.wrap_u8]
    rfl
  rw [e, BitVec.toNat_or, ofInt8 x hx.1 hx.2, ofInt8 y hy.1 hy.2]
  have := Nat.or_lt_two_pow (n := 8) (x := x.toNat) (y := y.toNat) (by omega) (by omega)
  omega
theorem xor_nat (x y : Int) (hx : 0 ≤ x ∧ x < 256) (hy : 0 ≤ y ∧ y < 256) : (bits .xor .u8 x y).toNat = x.toNat ^^^ y.toNat := by
  have e : bits .xor .u8 x y = ((BitVec.ofInt 8 x ^^^ BitVec.ofInt 8 y).toNat : Int) % 256 := by
    unfold bits
    simp only []
    rw [IntKind.wrap_u8]
    rfl
  rw [e, BitVec.toNat_xor, ofInt8 x hx.1 hx.2, ofInt8 y hy.1 hy.2]
  have := Nat.xor_lt_two_pow (n := 8) (x := x.toNat) (y := y.toNat) (by omega) (by omega)
  omega

theorem and_yb (x y : Int) (hx : 0 ≤ x ∧ x < 256) (hy : 0 ≤ y ∧ y < 256) (j : Nat) : yb (bits .and .u8 x y) j = (yb x j && yb y j) := by
  rw [yb_test _ (bits_u8 _ _ _).1, yb_test _ hx.1, yb_test _ hy.1, and_nat x y hx hy, Nat.testBit_and]
theorem or_yb (x y : Int) (hx : 0 ≤ x ∧ x < 256) (hy : 0 ≤ y ∧ y < 256) (j : Nat) : yb (bits .or .u8 x y) j = (yb x j || yb y j) := by
  rw [yb_test _ (bits_u8 _ _ _).1, yb_test _ hx.1, yb_test _ hy.1, or_nat x y hx hy, Nat.testBit_or]
theorem xor_yb (x y : Int) (hx : 0 ≤ x ∧ x < 256) (hy : 0 ≤ y ∧ y < 256) (j : Nat) : yb (bits .xor .u8 x y) j = (yb x j != yb y j) := by
  rw [yb_test _ (bits_u8 _ _ _).1, yb_test _ hx.1, yb_test _ hy.1, xor_nat x y hx hy, Nat.testBit_xor]

theorem yb_255 (j : Nat) (hj : j < 8) : yb 255 j = true := by
  have : ∀ j : Fin 8, yb 255 j.val = true := by decide
  exact this ⟨j, hj⟩
theorem yb_0 (j : Nat) : yb 0 j = false := by unfold yb; simp

theorem byte_ext (x y : Int) (hx : 0 ≤ x ∧ x < 256) (hy : 0 ≤ y ∧ y < 256) (h : ∀ j, j < 8 → yb x j = yb y j) : x = y := by
  have g : ∀ j, j < 8 → x / 2 ^ (7 - j) % 2 = y / 2 ^ (7 - j) % 2 := fun j hj => by
    have := h j hj
    unfold yb at this
    rw [Bool.eq_iff_iff, beq_iff_eq, beq_iff_eq] at this
    have a1 : x / 2 ^ (7 - j) % 2 = 0 ∨ x / 2 ^ (7 - j) % 2 = 1 := by omega
    have a2 : y / 2 ^ (7 - j) % 2 = 0 ∨ y / 2 ^ (7 - j) % 2 = 1 := by omega
    omega
  have g0 := g 0 (by decide)
  have g1 := g 1 (by decide)
  have g2 := g 2 (by decide)
  have g3 := g 3 (by decide)
  have g4 := g 4 (by decide)
  have g5 := g 5 (by decide)
  have g6 := g 6 (by decide)
  have g7 := g 7 (by decide)
  simp only [Nat.sub_zero, Nat.reduceSub, Int.reducePow, Int.pow_zero, Int.ediv_one] at g0 g1 g2 g3 g4 g5 g6 g7
  omega

theorem zero_byte (x : Int) (hx : 0 ≤ x ∧ x < 256) : x = 0 ↔ ∀ j, j < 8 → yb x j = false :=
  ⟨fun h j _ => by rw [h, yb_0], fun h => byte_ext x 0 hx (by decide) fun j hj => by rw [h j hj, yb_0]⟩

theorem ext13 (A B : List Int) (hA : A.length = 13) (hB : B.length = 13) (h : ∀ k, k < 13 → A.getD k 0 = B.getD k 0) : A = B := by
  apply List.ext_getElem (by omega)
  intro k h1 h2
  have := h k (by omega)
  simpa [List.getD, h1, h2] using this

theorem bt_ext (A B : List Int) (hA : Byt A) (hB : Byt B) (h : ∀ i, i < 104 → bt A i = bt B i) : A = B :=
  ext13 A B hA.1 hB.1 fun k hk => byte_ext _ _ (hA.2 k) (hB.2 k) fun j hj => by
    have := h (8 * k + j) (by omega)
    unfold bt at this
    rwa [show (8 * k + j) / 8 = k by omega, show (8 * k + j) % 8 = j by omega] at this

/-- The byte with these bits. -/
def mkY (f : Nat → Bool) : Int :=
  (if f 0 then 128 else 0) + (if f 1 then 64 else 0) + (if f 2 then 32 else 0) + (if f 3 then 16 else 0) + (if f 4 then 8 else 0) + (if f 5 then 4 else 0) + (if f 6 then 2 else 0) + (if f 7 then 1 else 0)
theorem mkY_yb (f : Nat → Bool) (j : Nat) (hj : j < 8) : yb (mkY f) j = f j := by
  have h : ∀ a b c d e g h i : Bool, ∀ j : Fin 8, yb ((if a then 128 else 0) + (if b then 64 else 0) + (if c then 32 else 0) + (if d then 16 else 0) + (if e then 8 else 0) + (if g then 4 else 0) + (if h then 2 else 0) + (if i then 1 else 0)) j.val = [a, b, c, d, e, g, h, i].getD j.val false := by decide +kernel
  unfold mkY
  rw [h _ _ _ _ _ _ _ _ ⟨j, hj⟩]
  rcases (show j = 0 ∨ j = 1 ∨ j = 2 ∨ j = 3 ∨ j = 4 ∨ j = 5 ∨ j = 6 ∨ j = 7 by omega) with h | h | h | h | h | h | h | h <;> subst h <;> rfl
theorem mkY_bd (f : Nat → Bool) : 0 ≤ mkY f ∧ mkY f < 256 := by
  unfold mkY
  constructor <;> (repeat' split) <;> omega

/-- The header with these bits. -/
def mk (f : Nat → Bool) : List Int := (List.range 13).map fun k => mkY fun j => f (8 * k + j)
theorem mk_at (f : Nat → Bool) (k : Nat) (hk : k < 13) : (mk f).getD k 0 = mkY fun j => f (8 * k + j) := by
  unfold mk
  simp [List.getD, hk]
theorem mk_byt (f : Nat → Bool) : Byt (mk f) := by
  refine ⟨by simp [mk], fun k => ?_⟩
  rcases Nat.lt_or_ge k 13 with h | h
  · rw [mk_at f k h]; exact mkY_bd _
  · rw [List.getD, List.getElem?_eq_none (by simpa [mk] using h)]; decide
theorem mk_bt (f : Nat → Bool) (i : Nat) (hi : i < 104) : bt (mk f) i = f i := by
  unfold bt
  rw [mk_at f _ (by omega), mkY_yb _ _ (by omega)]
  congr 1; omega
theorem mk_eq (L : List Int) (hL : Byt L) (f : Nat → Bool) (h : ∀ i, i < 104 → bt L i = f i) : L = mk f :=
  bt_ext L _ hL (mk_byt f) fun i hi => by rw [h i hi, mk_bt f i hi]
theorem mk_ext (f g : Nat → Bool) (h : ∀ i, i < 104 → f i = g i) : mk f = mk g :=
  mk_eq _ (mk_byt f) g fun i hi => by rw [mk_bt f i hi, h i hi]
theorem mk_of (L : List Int) (hL : Byt L) : mk (bt L) = L := (mk_eq L hL _ fun _ _ => rfl).symm
theorem mk_inj (f g : Nat → Bool) (h : mk f = mk g) : ∀ i, i < 104 → f i = g i := fun i hi => by rw [← mk_bt f i hi, ← mk_bt g i hi, h]

theorem bitB_bt (L : List Int) (i : Nat) (hi : i < 104) : bitB L (i : Int) = bt L i := by
  unfold bitB byteAt bt yb
  rw [decide_eq_true (by omega), Bool.true_and, show ((i : Int) / 8).toNat = i / 8 by omega, show (7 - (i : Int) % 8).toNat = 7 - i % 8 by omega]
theorem setB_mk (L : List Int) (hL : Byt L) (i : Nat) (b : Bool) (hi : i < 104) : setB L (i : Int) b = mk fun k => if k = i then b else bt L k := by
  obtain ⟨h1, h2⟩ := setB_bit L hL i b (by omega) (by omega)
  refine mk_eq _ h1 _ fun k hk => ?_
  rw [← bitB_bt _ k hk, h2 k (by omega) (by omega), ← bitB_bt L k hk]
  by_cases e : k = i
  · rw [if_pos e, if_pos (by omega)]
  · rw [if_neg e, if_neg (by omega)]
theorem flipL_mk (L : List Int) (hL : Byt L) (i : Nat) (hi : i < 104) : flipL L (i : Int) = mk fun k => if k = i then !(bt L k) else bt L k := by
  refine mk_eq _ (flip_byt L hL i) _ fun k hk => ?_
  rw [← bitB_bt _ k hk, flip_bit L hL i k, bitB_bt L k hk, decide_eq_true (by omega)]
  by_cases e : k = i
  · rw [if_pos e, decide_eq_true (by omega)]; cases bt L k <;> rfl
  · rw [if_neg e, decide_eq_false (by omega)]; cases bt L k <;> rfl
theorem Byt.at {L : List Int} (h : Byt L) (k : Nat) : 0 ≤ L.getD k 0 ∧ L.getD k 0 < 256 := h.2 k
theorem byt_set (L : List Int) (hL : Byt L) (k : Nat) (x : Int) (hk : k < 13) (hx : 0 ≤ x ∧ x < 256) : Byt (L.set k x) := by
  refine ⟨by rw [List.length_set]; exact hL.1, fun j => ?_⟩
  rw [getD_set _ _ _ _ (by rw [hL.1]; exact hk)]
  split
  · exact hx
  · exact hL.2 j
end Go.Proofs.YtnbklmmampdbfaaDoor
namespace Go.Proofs.YtnbklmmampdbfaaDoor
open Go Go.RowKit
set_option maxRecDepth 20000

section
variable {P : Program} {ops : Array Oper} {md : Region.Mode} {C : World → Prop}
def anyL (P : Program) (md : Region.Mode) (ops : Array Oper) (C : World → Prop) (n : Nat) (L : Array Bool → Act → Prop) : Nat → Array Bool → Act → Prop
  | 0, listed, a => L listed a
  | f + 1, listed, a =>
    Region.ready md ops listed ≠ [] ∧ ∀ i ∈ Region.ready md ops listed, i < n ∧ qOp P ops C i (anyL P md ops C n L f (listed.setIfInBounds i true)) a
theorem any_of_head {n g : Nat} {L : Array Bool → Act → Prop} {Q' : Exit → Act → World → Prop} (hL : ∀ listed a w, C w → L listed a → wpAny P md ops Q' g listed a w) :
    ∀ (f : Nat) (listed : Array Bool) (a : Act) (w : World), C w → anyL P md ops C n L f listed a → wpAny P md ops Q' (f + g) listed a w
  | 0, listed, a, w, hw, h => by rw [Nat.zero_add]; exact hL _ _ _ hw h
  | f + 1, listed, a, w, hw, h => by
    rw [show f + 1 + g = (f + g) + 1 by omega]
    exact ⟨fun h0 => absurd h0 h.1, fun i hi => wpOp_of_qOp hw (fun a' w' hw' h' => any_of_head hL f _ a' w' hw' h') (h.2 i hi).2⟩
theorem anyL_first {n i : Nat} {oi : Oper} {v : Value} {L : Array Bool → Act → Prop} (hi : ops[i]? = some oi) (hsel : ∀ (j : Nat) (o : Oper) cs b, ops[j]? = some o → o.op ≠ .select cs b)
    (hs : Region.sinkB md ops n = true) (hc : Region.chainB md ops n = true) (hn : n < ops.size) (hin : i < n)
    (hdone : ∀ listed a, L listed a → ∀ j ∈ Region.ready md ops listed, n ≤ j) :
    ∀ (f : Nat) (listed : Array Bool) (a : Act), HeadInv md ops n listed →
      (∀ j oj, ops[j]? = some oj → j ≠ i → listed.getD j true = false → (∀ e ∈ oj.after, Region.binds md e = true → e.on ≠ i) → oi.apart ops oj = true) →
      i ∈ Region.ready md ops listed → YieldsIn P ops C oi v a →
      anyL P md ops C n L f (listed.setIfInBounds i true) (a.put oi.dst v) → anyL P md ops C n L (f + 1) listed a := by
  intro f
  induction f with
  | zero =>
    intro listed a inv _ hr hy H
    have hun := (mem_ready.1 hr).1
    refine ⟨fun h => (by rw [h] at hr; cases hr), fun j hj => ?_⟩
    have hjn : j < n := by
      rcases Nat.lt_or_ge j n with h | h
      · exact h
      · exact absurd hj (tail_waits hs hc hn inv _ i rfl hin hun j h)
    refine ⟨hjn, ?_⟩
    by_cases hji : j = i
    · subst hji; exact hy.qOp hi H
    · have := hdone _ _ H j (ready_mono hj hji)
      omega
  | succ f ih =>
    intro listed a inv hfree hr hy H
    have hun := (mem_ready.1 hr).1
    refine ⟨fun h => (by rw [h] at hr; cases hr), fun j hj => ?_⟩
    have hjn : j < n := by
      rcases Nat.lt_or_ge j n with h | h
      · exact h
      · exact absurd hj (tail_waits hs hc hn inv _ i rfl hin hun j h)
    refine ⟨hjn, ?_⟩
    by_cases hji : j = i
    · subst hji; exact hy.qOp hi H
    · have h1 := (H.2 j (ready_mono hj hji)).2
      obtain ⟨hjun, oj, hoj, hall⟩ := mem_ready.1 hj
      have hnot : ∀ e ∈ oj.after, Region.binds md e = true → e.on ≠ i := fun e he hb heq => by
        have h1 := hall e he hb
        rw [heq, getD_both hun] at h1
        cases h1
      have h2 := qOp_put hoj (hfree j oj hoj hji hjun hnot) (fun cs b => hsel i oi cs b hi) (fun cs b => hsel j oj cs b hoj) hy h1
      have hfree' : ∀ k ok, ops[k]? = some ok → k ≠ i → (listed.setIfInBounds j true).getD k true = false →
          (∀ e ∈ ok.after, Region.binds md e = true → e.on ≠ i) → oi.apart ops ok = true := fun k ok hk hki hun hno => by
        refine hfree k ok hk hki ?_ hno
        by_cases hjk : j = k
        · subst hjk; exact hjun
        · rw [getD_set_ne true hjk] at hun; exact hun
      refine qOp_mono (fun a' h3 => ih (listed.setIfInBounds j true) a' (inv.set hj hjn) hfree' (ready_mono hr (Ne.symm hji)) h3.1 ?_) h2
      rw [Array.setIfInBounds_comm _ _ hji]
      exact h3.2
theorem anyL_lex {n g : Nat} {Lq : Act → Prop} (hsel : Region.noSelect ops = true) (hs : Region.sinkB md ops n = true) (hc : Region.chainB md ops n = true) (hn : n < ops.size) :
    ∀ (l : List Oper) (k : Nat) (listed : Array Bool) (a : Act), (∀ j, j < l.length → l[j]? = ops[k + j]?) → k + l.length = n → HeadInv md ops n listed →
    Region.lexHead md ops g l.length k listed = true → wpQuiet P ops C Lq l a →
    anyL P md ops C n (fun listed' a' => Region.seqB md ops g n listed' = true ∧ Lq a') l.length listed a
  | [], k, listed, a, _, hk, _, hB, h => by
    have : k = n := by simpa using hk
    subst this
    exact ⟨by simpa [Region.lexHead] using hB, h⟩
  | o :: l, k, listed, a, hl, hk, inv, hB, h => by
    have h0 : ops[k]? = some o := by simpa using (hl 0 (by simp)).symm
    simp only [List.length_cons, Region.lexHead, Bool.and_eq_true] at hB
    obtain ⟨⟨hr, hf⟩, hB'⟩ := hB
    have hkn : k < n := by simp only [List.length_cons] at hk; omega
    have hr' : k ∈ Region.ready md ops listed := by simpa using hr
    have hst : qOp P ops C k (wpQuiet P ops C Lq l) a := by unfold qOp; simp only [h0]; exact h
    obtain ⟨v, hy, hK⟩ := yieldsIn_of_qOp h0 hst
    exact anyL_first h0 (Region.noSelect_spec hsel) hs hc hn hkn (fun listed' a' hL => seqB_ready hL.1) l.length listed a inv (Region.free_spec h0 hf) hr' hy
      (anyL_lex hsel hs hc hn l (k + 1) _ _ (fun j hj => by have := hl (j + 1) (by simp; omega); simpa [Nat.add_assoc, Nat.add_comm 1 j] using this) (by simp only [List.length_cons] at hk; omega) (inv.set hr' hkn) hB' hK)
end

/-- A drawn region whose first n operations only read and call, in any order, and whose rest comes behind them in order. -/
theorem wp_region_latertail {P : Program} {id : Nat} {Q : Exit → Act → World → Prop} {a : Act} {w : World} {l : List Oper} (n : Nat) (hm : P.follows .mixedOrders = true) (hB : Region.lexTailB .any l.toArray n = true)
    (h : wpQuiet P l.toArray (fun w' => ∃ u : Later w, w' = u.world) (fun a' => ∀ w', (∃ u : Later w, w' = u.world) → wpList P l.toArray Q (l.drop n) a' w') (l.take n) a) : (Code.region id l.toArray true).wp P Q a w := by
  simp only [Region.lexTailB, Bool.and_eq_true, decide_eq_true_eq] at hB
  obtain ⟨⟨⟨⟨hsel, hn⟩, hs⟩, hc⟩, hlex⟩ := hB
  have hn' : n < l.length := by simpa using hn
  have htl : (l.take n).length = n := by simp; omega
  have hdl : (l.drop n).length = l.toArray.size - n := by simp
  have inv0 : HeadInv .any l.toArray n (Array.replicate l.toArray.size false) :=
    ⟨by simp, fun j oj _ hl => (by rw [getD_replicate_false] at hl; cases hl), fun t _ ht => getD_in (by simpa using ht) (getD_replicate_false _ _)⟩
  have H := anyL_lex (md := .any) (g := l.toArray.size - n) hsel hs hc hn (l.take n) 0 _ a (fun j hj => by
    have hj' : j < n := by rw [htl] at hj; exact hj
    simp [hj']) (by simpa using htl) inv0 (by rw [htl]; exact hlex) h
  refine wp_region_any hm ?_
  have hC : (fun w' => ∃ u : Later w, w' = u.world) w.drew := ⟨⟨w.drew, (Below.refl _ _).drew⟩, rfl⟩
  have := any_of_head (Q' := Q) (g := l.toArray.size - n) (fun listed a' w' hw' hL => by
    rw [← hdl] at hL ⊢
    exact wpAny_of_seq (l.drop n) n listed a' w' (fun j => by simp) hL.1 (hL.2 w' hw')) _ _ _ _ hC H
  rw [htl, show n + (l.toArray.size - n) = l.toArray.size by omega] at this
  exact this
end Go.Proofs.YtnbklmmampdbfaaDoor
namespace Go.Proofs.YtnbklmmampdbfaaDoor
open Go Go.RowKit
set_option maxRecDepth 20000

/-- A cube's cells: its value's, then its mask's. -/
def cv (V M : List Int) : Array Value := hv (V ++ M)
theorem cv_size (V M : List Int) (hV : V.length = 13) (hM : M.length = 13) : (cv V M).size = 26 := by
  unfold cv; rw [hv_size, List.length_append, hV, hM]
theorem cv_one (V M : List Int) : (cv V M).all (·.oneCell') = true := hv_one _
theorem hv_get (L : List Int) (k : Nat) (hk : k < L.length) : (hv L)[k]? = some (.int .u8 (L.getD k 0)) := by
  unfold hv
  simp [List.getElem?_map, List.getElem?_eq_getElem hk, List.getD]
theorem cv_val (V M : List Int) (hV : V.length = 13) (k : Nat) (hk : k < 13) : (cv V M)[k]? = some (.int .u8 (V.getD k 0)) := by
  unfold cv hv
  simp [List.getElem?_append, hV, hk, List.getD]
theorem cv_mask (V M : List Int) (hV : V.length = 13) (hM : M.length = 13) (k : Nat) (hk : k < 13) : (cv V M)[13 + k]? = some (.int .u8 (M.getD k 0)) := by
  unfold cv hv
  simp [List.getElem?_append, hV, List.getElem?_eq_getElem (show k < M.length by omega), List.getD]
theorem cv_set_val (V M : List Int) (hV : V.length = 13) (k : Nat) (hk : k < 13) (x : Int) : (cv V M).setIfInBounds k (.int .u8 x) = cv (V.set k x) M := by
  unfold cv
  rw [hv_set, List.set_append_left _ _ (by omega)]
theorem cv_set_mask (V M : List Int) (hV : V.length = 13) (k : Nat) (x : Int) : (cv V M).setIfInBounds (13 + k) (.int .u8 x) = cv V (M.set k x) := by
  unfold cv
  rw [hv_set, List.set_append_right _ _ (by omega), hV, Nat.add_sub_cancel_left]

abbrev zeroC : Array Value := #[.int .u8 0, .int .u8 0, .int .u8 0, .int .u8 0, .int .u8 0, .int .u8 0, .int .u8 0, .int .u8 0, .int .u8 0, .int .u8 0, .int .u8 0, .int .u8 0, .int .u8 0, .int .u8 0, .int .u8 0, .int .u8 0, .int .u8 0, .int .u8 0, .int .u8 0, .int .u8 0, .int .u8 0, .int .u8 0, .int .u8 0, .int .u8 0, .int .u8 0, .int .u8 0]
/-- Thirteen noughts. -/
def Z : List Int := mk fun _ => false
theorem Z_eq : Z = [0, 0, 0, 0, 0, 0, 0, 0, 0, 0, 0, 0, 0] := by kernel_rfl
theorem zeroC_eq : zeroC = cv Z Z := by rw [Z_eq]; rfl
theorem zero26_eq : zero26 = hv Z := by rw [Z_eq]; rfl
theorem Z_byt : Byt Z := mk_byt _
theorem Z_bt (i : Nat) (hi : i < 104) : bt Z i = false := mk_bt _ i hi

theorem sizeC (V M : List Int) (hV : V.length = 13) (hM : M.length = 13) : (Tryd.prog.info? 33).map (·.size) = some (cv V M).size := by
  rw [cv_size V M hV hM]; kernel_rfl

theorem wl_loadC {ops : Array Oper} {rest : List Oper} {o : Oper} {a : Act} {w : World} {Q : Exit → Act → World → Prop} (hgd : o.guard = none) (x : Operand) (ho : o.op = .load 33 x)
    (g : Nat) (hx : a.eval x = .pointer (some ⟨g, 0, none⟩)) (V M : List Int) (hg : w.heap[g]? = some (.cells (cv V M) 33 (0, 0))) (hV : V.length = 13) (hM : M.length = 13)
    (h : wpList Tryd.prog ops Q rest (a.put o.dst (.agg (cv V M))) w) : wpList Tryd.prog ops Q (o :: rest) a w :=
  wpList_load_row hgd 33 x ho g hx 33 (cv V M) (0, 0) _ hg Tryd.underlying33 rfl (sizeC V M hV hM) h
theorem wl_loadCg {ops : Array Oper} {rest : List Oper} {o : Oper} {a : Act} {w : World} {Q : Exit → Act → World → Prop} (hw : Region.wanted o (yielded ops a.tmps) = true) (x : Operand) (ho : o.op = .load 33 x)
    (g : Nat) (hx : a.eval x = .pointer (some ⟨g, 0, none⟩)) (V M : List Int) (hg : w.heap[g]? = some (.cells (cv V M) 33 (0, 0))) (hV : V.length = 13) (hM : M.length = 13)
    (h : wpList Tryd.prog ops Q rest (a.put o.dst (.agg (cv V M))) w) : wpList Tryd.prog ops Q (o :: rest) a w := by
  refine wpList_step fun K hK => ?_
  rw [if_pos hw]
  exact wp_load_row 33 x ho g hx 33 (cv V M) (0, 0) _ hg Tryd.underlying33 rfl (sizeC V M hV hM) (hK _ _ h)
theorem wl_loadHg {ops : Array Oper} {rest : List Oper} {o : Oper} {a : Act} {w : World} {Q : Exit → Act → World → Prop} (hw : Region.wanted o (yielded ops a.tmps) = true) (x : Operand) (ho : o.op = .load 23 x)
    (g : Nat) (hx : a.eval x = .pointer (some ⟨g, 0, none⟩)) (L : List Int) (hg : w.heap[g]? = some (.cells (hv L) 23 (0, 0))) (hL : L.length = 13)
    (h : wpList Tryd.prog ops Q rest (a.put o.dst (.agg (hv L))) w) : wpList Tryd.prog ops Q (o :: rest) a w := by
  refine wpList_step fun K hK => ?_
  rw [if_pos hw]
  exact wp_load_row 23 x ho g hx 23 (hv L) (0, 0) _ hg Tryd.underlying23 rfl (size26 L hL) (hK _ _ h)
theorem wl_storeC {ops : Array Oper} {rest : List Oper} {o : Oper} {a : Act} {w : World} {Q : Exit → Act → World → Prop} (hgd : o.guard = none) (x y : Operand) (ho : o.op = .store 33 x y)
    (g : Nat) (V M : List Int) (hx : a.eval x = .pointer (some ⟨g, 0, none⟩)) (hy : a.eval y = .agg (cv V M)) (old : Array Value) (hg : w.heap[g]? = some (.cells old 33 (0, 0))) (hold : old.size = 26) (hV : V.length = 13) (hM : M.length = 13)
    (w' : World) (hw' : w.setRow g (cv V M) = w')
    (h : wpList Tryd.prog ops Q rest (a.put o.dst undef) w') : wpList Tryd.prog ops Q (o :: rest) a w :=
  wpList_store_row hgd 33 x y ho g (cv V M) hx hy 33 old hg (sizeC V M hV hM) (by rw [cv_size V M hV hM, hold]) (cv_one V M) (by rw [hw']; exact h)
theorem retC {fn : Func} {R : Ending → World → Prop} {a : Act} {w : World} {p : Tmp} (hr : fn.results = #[.cell p 33]) (hd : a.defers = []) (g : Nat) (hp : a.tmps.getD p undef = .pointer (some ⟨g, 0, none⟩)) (V M : List Int) (hV : V.length = 13) (hM : M.length = 13)
    (hg : w.heap[g]? = some (.cells (cv V M) 33 (0, 0))) (h : R (.returned (.agg (cv V M))) w) : bodyPost Tryd.prog fn R .ret a w :=
  bodyPost_ret (v := .agg (cv V M)) (results_cell_row hr _ _ g 33 (cv V M) (0, 0) _ hp hg Tryd.underlying33 rfl (sizeC V M hV hM)) hd h

theorem part_val (V M : List Int) (hV : V.length = 13) (w : World) : (part 23 (cv V M) 0).run Tryd.prog w = .ok (.agg (hv V)) w := by
  have hz : ∀ w, (sizeOf 23).run Tryd.prog w = .ok 13 w := fun w => by kernel_rfl
  have ha : ∀ w, (isAgg 23).run Tryd.prog w = .ok true w := fun w => by kernel_rfl
  have e : (cv V M).extract 0 13 = hv V := by
    unfold cv hv
    simp [hV]
  simp [part, ha, hz, Sem.run_bind, e]
theorem part_mask (V M : List Int) (hV : V.length = 13) (hM : M.length = 13) (w : World) : (part 23 (cv V M) 13).run Tryd.prog w = .ok (.agg (hv M)) w := by
  have hz : ∀ w, (sizeOf 23).run Tryd.prog w = .ok 13 w := fun w => by kernel_rfl
  have ha : ∀ w, (isAgg 23).run Tryd.prog w = .ok true w := fun w => by kernel_rfl
  have e : (cv V M).extract 13 26 = hv M := by
    unfold cv hv
    simp [hV, List.take_of_length_le, hM]
  simp [part, ha, hz, Sem.run_bind, e]

theorem eqC (V M V' M' : List Int) (hV : V.length = 13) (hM : M.length = 13) (hV' : V'.length = 13) (hM' : M'.length = 13) (w : World) :
    (Op.equalIn 10000 33 (.agg (cv V M)) (.agg (cv V' M'))).run Tryd.prog w = .ok (V == V' && M == M') w := by
  have eH : ∀ A B : List Int, A.length = 13 → B.length = 13 → ∀ w, (Op.equalIn 9999 23 (.agg (hv A)) (.agg (hv B))).run Tryd.prog w = .ok (A == B) w := fun A B hA hB w => by
    have z5 : (sizeOf 5).run Tryd.prog w = .ok 1 w := by kernel_rfl
    rw [show (9999 : Nat) = 9998 + 1 from rfl, Op.equalIn]
    simp only [Sem.run_bind, run_underlying Tryd.underlying23, Result.andThen_ok, z5]
    simp only [Std.Legacy.Range.forIn_eq_forIn_range', Std.Legacy.Range.size, Nat.sub_zero, Nat.add_sub_cancel, Nat.div_one]
    rw [← all_eq A B hA hB]
    exact loopN 9997 A B hA hB w _ rfl rfl (List.range' 0 13) (fun i hi => by simp at hi; omega)
  rw [show (10000 : Nat) = 9999 + 1 from rfl, run_equalIn_struct w 9999 33 _ _ (by kernel_rfl) (by kernel_rfl)]
  rw [show (Tryd.prog.fieldsOf 33).toList = [{ name := "Value", type := 23, offset := 0, embedded := false, tag := "", pkgPath := "", byteOffset := 0 }, { name := "Mask", type := 23, offset := 13, embedded := false, tag := "", pkgPath := "", byteOffset := 13 }] from by kernel_rfl]
  simp only [Op.eqFields, ne_eq, String.reduceEq, not_false_eq_true, if_true, Sem.run_bind]
  simp only [part_val V M hV, part_val V' M' hV', Result.andThen_ok, eH V V' hV hV']
  cases hA : (V == V')
  · simp
  · simp only [Bool.not_true, Bool.false_eq_true, if_false, Sem.run_bind, part_mask V M hV hM, part_mask V' M' hV' hM', Result.andThen_ok, eH M M' hM hM']
    cases hB : (M == M') <;> simp
theorem egC (op : BinOp) (x y : Operand) (xs ys : Array Value) (w : World) : (eqGuard op 33 x y (.agg xs) (.agg ys)).run Tryd.prog w = .ok () w :=
  run_eqGuard_agg w op 33 x y xs ys (by kernel_rfl)
theorem egH (op : BinOp) (x y : Operand) (xs ys : Array Value) (w : World) : (eqGuard op 23 x y (.agg xs) (.agg ys)).run Tryd.prog w = .ok () w :=
  run_eqGuard_agg w op 23 x y xs ys (by kernel_rfl)

theorem qlH {W : World} {ops : Array Oper} {Q : Act → Prop} {rest : List Oper} {o : Oper} {a : Act} (hw : Region.wanted o (yielded ops a.tmps) = true) (x : Operand) (ho : o.op = .load 23 x)
    (g : Nat) (hx : a.eval x = .pointer (some ⟨g, 0, none⟩)) (L : List Int) (hg : W.heap[g]? = some (.cells (hv L) 23 (0, 0))) (hL : L.length = 13)
    (h : wpQuiet Tryd.prog ops (fun w' => ∃ u : Later W, w' = u.world) Q rest (a.put o.dst (.agg (hv L)))) : wpQuiet Tryd.prog ops (fun w' => ∃ u : Later W, w' = u.world) Q (o :: rest) a :=
  q_load_row hw 23 x ho g hx 23 (hv L) (0, 0) _ (later_block hg) Tryd.underlying23 rfl (size26 L hL) h
theorem qlC {W : World} {ops : Array Oper} {Q : Act → Prop} {rest : List Oper} {o : Oper} {a : Act} (hw : Region.wanted o (yielded ops a.tmps) = true) (x : Operand) (ho : o.op = .load 33 x)
    (g : Nat) (hx : a.eval x = .pointer (some ⟨g, 0, none⟩)) (V M : List Int) (hg : W.heap[g]? = some (.cells (cv V M) 33 (0, 0))) (hV : V.length = 13) (hM : M.length = 13)
    (h : wpQuiet Tryd.prog ops (fun w' => ∃ u : Later W, w' = u.world) Q rest (a.put o.dst (.agg (cv V M)))) : wpQuiet Tryd.prog ops (fun w' => ∃ u : Later W, w' = u.world) Q (o :: rest) a :=
  q_load_row hw 33 x ho g hx 33 (cv V M) (0, 0) _ (later_block hg) Tryd.underlying33 rfl (sizeC V M hV hM) h
/-- One byte is read, in any world above. -/
theorem later_cell {W : World} {g k : Nat} {cs : Array Value} {t : TypeId} {v : Value} (hg : W.heap[g]? = some (.cells cs t (0, 0))) (hk : cs[k]? = some v) : ∀ u : Later W, u.world.cell? ⟨g, k, none⟩ = some v := fun u => by
  rw [cell_of_row u.world _ _ _ _ _ (later_block hg _ ⟨u, rfl⟩)]; exact hk
end Go.Proofs.YtnbklmmampdbfaaDoor
namespace Go.Proofs.YtnbklmmampdbfaaDoor
open Go Go.RowKit
set_option maxRecDepth 20000

/-- An operation that only reckons or reads. -/
def isRead (o : Oper) : Bool :=
  match o.op with
  | .move _ | .load _ _ | .binOp _ _ _ _ _ | .indexAddr _ _ _ | .extract _ _ | .assign _ | .fieldAddr _ _ _ | .slice _ _ _ _ _ => true
  | _ => false

theorem read_value {P : Program} {ρ : Operand → Value} {o : Oper} (h : isRead o = true) (w : World) (nx : Next) (w' : World) (hr : (execOp ρ o).run P w = .ok nx w') : ∃ u, nx = .value u := by
  unfold isRead at h
  unfold execOp at hr
  split at h
  · rename_i x e
    simp only [e, Sem.run_pure, Result.ok.injEq] at hr
    exact ⟨_, hr.1.symm⟩
  · rename_i t x e
    simp only [e, Sem.run_bind, Sem.run_pure] at hr
    revert hr
    generalize (Instr.loadAt t (ρ x)).run P w = r
    intro hr
    cases r with
    | ok a w1 => simp only [Result.andThen_ok, Result.ok.injEq] at hr; exact ⟨_, hr.1.symm⟩
    | halt x w1 => simp [Result.andThen] at hr
  · rename_i op t x y z e
    simp only [e, Sem.run_bind, Sem.run_pure] at hr
    revert hr
    generalize ((eqGuard op t x y (ρ x) (ρ y)).run P w).andThen (fun _ w' => (binOp op t (ρ x) (ρ y)).run P w') = r
    intro hr
    cases r with
    | ok a w1 => simp only [Result.andThen_ok, Result.ok.injEq] at hr; exact ⟨_, hr.1.symm⟩
    | halt x w1 => simp [Result.andThen] at hr
  · rename_i t x y e
    simp only [e, Sem.run_bind, Sem.run_pure] at hr
    revert hr
    generalize (Instr.indexAt t (ρ x) (ρ y)).run P w = r
    intro hr
    cases r with
    | ok a w1 => simp only [Result.andThen_ok, Result.ok.injEq] at hr; exact ⟨_, hr.1.symm⟩
    | halt x w1 => simp [Result.andThen] at hr
  · rename_i x i e
    simp only [e, Sem.run_bind, Sem.run_pure] at hr
    revert hr
    generalize (Instr.extract (ρ x) i).run P w = r
    intro hr
    cases r with
    | ok a w1 => simp only [Result.andThen_ok, Result.ok.injEq] at hr; exact ⟨_, hr.1.symm⟩
    | halt x w1 => simp [Result.andThen] at hr
  · rename_i x e
    simp only [e, Sem.run_pure, Result.ok.injEq] at hr
    exact ⟨_, hr.1.symm⟩
  · rename_i t x i e
    simp only [e, Sem.run_bind, Sem.run_pure] at hr
    revert hr
    generalize (Instr.fieldAt t (ρ x) i).run P w = r
    intro hr
    cases r with
    | ok a w1 => simp only [Result.andThen_ok, Result.ok.injEq] at hr; exact ⟨_, hr.1.symm⟩
    | halt x w1 => simp [Result.andThen] at hr
  · rename_i t x lo hi mx e
    simp only [e, Sem.run_bind, Sem.run_pure] at hr
    revert hr
    generalize (Instr.sliceAt t (ρ x) (lo.map ρ) (hi.map ρ) (mx.map ρ)).run P w = r
    intro hr
    cases r with
    | ok a w1 => simp only [Result.andThen_ok, Result.ok.injEq] at hr; exact ⟨_, hr.1.symm⟩
    | halt x w1 => simp [Result.andThen] at hr
  · cases h

theorem yieldsIf_of_in {P : Program} {ops : Array Oper} {S : World → Prop} {o : Oper} {v : Value} {a : Act} (h : isRead o = true) (hy : YieldsIn P ops S o v a) : YieldsIf P ops S o v a := by
  rcases hy with ⟨hw, hv⟩ | hn
  · refine .inl ⟨hw, fun w hS => ?_⟩
    have hq := hv w hS
    unfold Oper.quietAt at hq
    cases hr : (execOp a.eval o).run P w with
    | ok nx w' =>
      obtain ⟨u, rfl⟩ := read_value h w nx w' hr
      rw [hr] at hq
      obtain ⟨rfl, rfl⟩ := hq
      rfl
    | halt x w' => rw [hr] at hq; exact hq.elim
  · exact .inr hn

def headFrom (md : Region.Mode) (ops : Array Oper) : Nat → Nat → Array Bool → Bool
  | 0, _, _ => true
  | f + 1, k, listed => (Region.ready md ops listed).contains k && Region.free md ops listed k && headFrom md ops f (k + 1) (listed.setIfInBounds k true)
def listedFrom : Nat → Nat → Array Bool → Array Bool
  | 0, _, l => l
  | f + 1, k, l => listedFrom f (k + 1) (l.setIfInBounds k true)

theorem reads_held {P : Program} {md : Region.Mode} {ops : Array Oper} {Q : Exit → Act → World → Prop} {S : World → Prop} {g : Nat} (hs : Region.noSelect ops = true) (hQ : ∀ d v c a w, Q (.panic c) (Act.put a d v) w → Q (.panic c) a w) (w : World) (hS : S w) :
    ∀ (l : List Oper) (k : Nat) (listed : Array Bool) (a : Act), (∀ j, j < l.length → l[j]? = ops[k + j]?) → headFrom md ops l.length k listed = true → l.all isRead = true →
      wpQuiet P ops S (fun a' => wpAnyH P md ops Q S g (listedFrom l.length k listed) a' w) l a → wpAnyH P md ops Q S (l.length + g) listed a w
  | [], _, _, _, _, _, _, h => by simpa [wpQuiet, listedFrom] using h
  | o :: l, k, listed, a, hl, hB, hr, h => by
    have h0 : ops[k]? = some o := by simpa using (hl 0 (by simp)).symm
    simp only [List.length_cons, headFrom, Bool.and_eq_true] at hB
    simp only [List.all_cons, Bool.and_eq_true] at hr
    have hst : qOp P ops S k (wpQuiet P ops S (fun a' => wpAnyH P md ops Q S g (listedFrom (o :: l).length k listed) a' w) l) a := by
      unfold qOp; simp only [h0]; exact h
    obtain ⟨v, hy, hK⟩ := yieldsIn_of_qOp h0 hst
    have ih := reads_held hs hQ w hS l (k + 1) (listed.setIfInBounds k true) (a.put o.dst v) (fun j hj => by
      have := hl (j + 1) (by simp; omega)
      simpa [Nat.add_assoc, Nat.add_comm 1 j] using this) hB.2 hr.2 hK
    rw [show (o :: l).length + g = (l.length + g) + 1 by simp; omega]
    exact wpAnyH_take h0 hs hB.1.2 hB.1.1 (fun c a w => hQ o.dst v c a w) (yieldsIf_of_in hr.1 hy) hS ih

/-- A drawn region, from its beginning. -/
theorem region_begin {P : Program} {id : Nat} {Q : Exit → Act → World → Prop} {a : Act} {w : World} {lo : List Oper} (n : Nat) (hn : lo.length = n) (hm : P.follows .mixedOrders = true)
    (h : wpAnyH P .any lo.toArray Q (fun w' => ∃ u : Later w, w' = u.world) n (Array.replicate n false) a w.drew) : (Code.region id lo.toArray true).wp P Q a w := by
  refine wp_region_held (S := fun w' => ∃ u : Later w, w' = u.world) hm ?_
  rw [show lo.toArray.size = n by simpa using hn]
  exact h
/-- The same with a class of worlds of one's own. -/
theorem region_beginS {P : Program} {id : Nat} {Q : Exit → Act → World → Prop} {a : Act} {w : World} {lo : List Oper} (S : World → Prop) (n : Nat) (hn : lo.length = n) (hm : P.follows .mixedOrders = true)
    (h : wpAnyH P .any lo.toArray Q S n (Array.replicate n false) a w.drew) : (Code.region id lo.toArray true).wp P Q a w := by
  refine wp_region_held (S := S) hm ?_
  rw [show lo.toArray.size = n by simpa using hn]
  exact h
/-- n operations, from number k on, that only read, are taken first. -/
theorem region_reads {P : Program} {Q : Exit → Act → World → Prop} {S : World → Prop} {a : Act} {w : World} {lo : List Oper} {listed : Array Bool} (k n g : Nat) (hl : ((lo.drop k).take n).length = n) (hs : Region.noSelect lo.toArray = true)
    (hB : headFrom .any lo.toArray n k listed = true) (hr : ((lo.drop k).take n).all isRead = true) (hQ : ∀ d v c a w, Q (.panic c) (Act.put a d v) w → Q (.panic c) a w) (hS : S w)
    (h : wpQuiet P lo.toArray S (fun a' => wpAnyH P .any lo.toArray Q S g (listedFrom n k listed) a' w) ((lo.drop k).take n) a) : wpAnyH P .any lo.toArray Q S (n + g) listed a w := by
  have := reads_held (P := P) (md := .any) (Q := Q) (g := g) hs hQ w hS ((lo.drop k).take n) k listed a (fun j hj => by
    rw [hl] at hj
    rw [List.getElem?_take_of_lt hj, List.getElem?_drop]
    simp) (by rw [hl]; exact hB) hr (by rw [hl]; exact h)
  rwa [hl] at this
theorem noPanic {F : Act → World → Prop} : ∀ (d : Option Tmp) (v : Value) c (a : Act) (w : World), (fun (e : Exit) a w => e = .normal ∧ F a w) (.panic c) (Act.put a d v) w → (fun (e : Exit) a w => e = .normal ∧ F a w) (.panic c) a w :=
  fun _ _ _ _ _ h => absurd h.1 (by simp)
/-- A cut behind a region. -/
theorem region_cut {P : Program} {c : Code} {Q : Exit → Act → World → Prop} {a : Act} {w : World} (F : Act → Act → World → Prop) (h1 : c.wp P (fun e a' w' => e = .normal ∧ F a a' w') a w) (h2 : ∀ a' w', F a a' w' → Q .normal a' w') : c.wp P Q a w :=
  Code.wp_mono (by rintro e a' w' ⟨rfl, h⟩; exact h2 a' w' h) h1

theorem wpOp_wanted {P : Program} {ops : Array Oper} {Q : Exit → Act → World → Prop} {i : Nat} {o : Oper} {K : Act → World → Prop} {a : Act} {w : World} (hi : ops[i]? = some o) (hw : Region.wanted o (yielded ops a.tmps) = true) (h : o.wp P a w K Q) : wpOp P ops Q i K a w := by
  unfold Go.wpOp
  simp only [hi, hw, if_true]
  exact .inl h
theorem wpOp_call {ops : Array Oper} {Q : Exit → Act → World → Prop} {i : Nat} {o : Oper} {K : Act → World → Prop} {a : Act} {w : World} (hi : ops[i]? = some o) (hw : Region.wanted o (yielded ops a.tmps) = true) (f : FuncId) (xs : Array Operand)
    (hf : ∀ (b : Act) (w : World), (execOp b.eval o).run Tryd.prog w = .ok (.enter f (xs.map b.eval)) w) (vs : Array Value) (hvs : xs.toList.map a.eval = vs.toList)
    (D : Value → World → Prop) (h : Calls Tryd.prog f vs w fun e w' => ∃ v, e = .returned v ∧ D v w') (d : Option Tmp) (hd : o.dst = d) (hK : ∀ v w', D v w' → K (a.put d v) w') : wpOp Tryd.prog ops Q i K a w := by
  subst hd
  refine wpOp_wanted hi hw ?_
  unfold Oper.wp
  rw [hf a w, show xs.map a.eval = vs from Array.ext' (by rw [Array.toList_map]; exact hvs)]
  refine h.mono ?_
  rintro e w' ⟨v, rfl, hc⟩
  exact hK v w' hc
theorem wpOp_allocC {ops : Array Oper} {Q : Exit → Act → World → Prop} {i : Nat} {o : Oper} {K : Act → World → Prop} {a : Act} {w : World} (hi : ops[i]? = some o) (hw : Region.wanted o (yielded ops a.tmps) = true) (ho : o.op = .alloc 33) (d : Option Tmp) (hd : o.dst = d)
    (hK : K (a.put d (.pointer (some ⟨w.heap.size, 0, none⟩))) (w.alloc (.cells zeroC 33))) : wpOp Tryd.prog ops Q i K a w := by
  subst hd
  refine wpOp_wanted hi hw ?_
  obtain ⟨dst, op, ty, pos, after, guard⟩ := o
  subst ho
  unfold Oper.wp
  have : ∀ (b : Act), (execOp b.eval ⟨dst, .alloc 33, ty, pos, after, guard⟩).run Tryd.prog w = .ok (.value (.pointer (some ⟨w.heap.size, 0, none⟩))) (w.alloc (.cells zeroC 33)) := fun b => by simp [go_sem]
  rw [this a]
  exact hK
theorem wpOp_alloc26 {ops : Array Oper} {Q : Exit → Act → World → Prop} {i : Nat} {o : Oper} {K : Act → World → Prop} {a : Act} {w : World} (hi : ops[i]? = some o) (hw : Region.wanted o (yielded ops a.tmps) = true) (ho : o.op = .alloc 23) (d : Option Tmp) (hd : o.dst = d)
    (hK : K (a.put d (.pointer (some ⟨w.heap.size, 0, none⟩))) (w.alloc (.cells zero26 23))) : wpOp Tryd.prog ops Q i K a w := by
  subst hd
  refine wpOp_wanted hi hw ?_
  obtain ⟨dst, op, ty, pos, after, guard⟩ := o
  subst ho
  unfold Oper.wp
  have : ∀ (b : Act), (execOp b.eval ⟨dst, .alloc 23, ty, pos, after, guard⟩).run Tryd.prog w = .ok (.value (.pointer (some ⟨w.heap.size, 0, none⟩))) (w.alloc (.cells zero26 23)) := fun b => by simp [go_sem]
  rw [this a]
  exact hK
theorem wpOp_store26 {ops : Array Oper} {Q : Exit → Act → World → Prop} {i : Nat} {o : Oper} {K : Act → World → Prop} {a : Act} {w : World} (hi : ops[i]? = some o) (hw : Region.wanted o (yielded ops a.tmps) = true) (x y : Operand) (ho : o.op = .store 23 x y)
    (g : Nat) (L : List Int) (hx : a.eval x = .pointer (some ⟨g, 0, none⟩)) (hy : a.eval y = .agg (hv L)) (old : Array Value) (hg : w.heap[g]? = some (.cells old 23 (0, 0))) (hold : old.size = 13) (hL : L.length = 13) (d : Option Tmp) (hd : o.dst = d)
    (hK : K (a.put d undef) (w.setRow g (hv L))) : wpOp Tryd.prog ops Q i K a w := by
  subst hd
  exact wpOp_wanted hi hw (wp_store_row 23 x y ho g (hv L) hx hy 23 old hg (size26 L hL) (by rw [hv_size, hold, hL]) (hv_one L) hK)
theorem wpOp_storeC {ops : Array Oper} {Q : Exit → Act → World → Prop} {i : Nat} {o : Oper} {K : Act → World → Prop} {a : Act} {w : World} (hi : ops[i]? = some o) (hw : Region.wanted o (yielded ops a.tmps) = true) (x y : Operand) (ho : o.op = .store 33 x y)
    (g : Nat) (V M : List Int) (hx : a.eval x = .pointer (some ⟨g, 0, none⟩)) (hy : a.eval y = .agg (cv V M)) (old : Array Value) (hg : w.heap[g]? = some (.cells old 33 (0, 0))) (hold : old.size = 26) (hV : V.length = 13) (hM : M.length = 13) (d : Option Tmp) (hd : o.dst = d)
    (hK : K (a.put d undef) (w.setRow g (cv V M))) : wpOp Tryd.prog ops Q i K a w := by
  subst hd
  exact wpOp_wanted hi hw (wp_store_row 33 x y ho g (cv V M) hx hy 33 old hg (sizeC V M hV hM) (by rw [cv_size V M hV hM, hold]) (cv_one V M) hK)
theorem wpOp_assign {P : Program} {ops : Array Oper} {Q : Exit → Act → World → Prop} {i : Nat} {o : Oper} {K : Act → World → Prop} {a : Act} {w : World} (hi : ops[i]? = some o) (hw : Region.wanted o (yielded ops a.tmps) = true) (x : Operand) (ho : o.op = .assign x) (v : Value) (hx : a.eval x = v) (d : Option Tmp) (hd : o.dst = d)
    (hK : K (a.put d v) w) : wpOp P ops Q i K a w := by
  subst hd hx
  refine wpOp_wanted hi hw ?_
  unfold Oper.wp execOp
  simp only [ho, Sem.run_pure]
  exact hK
end Go.Proofs.YtnbklmmampdbfaaDoor
namespace Go.Proofs.YtnbklmmampdbfaaDoor
open Go Go.RowKit
set_option maxRecDepth 20000

/-- What an error is told by: a panic with the error and its place. -/
def faultV (c q : Nat) : Value := .iface 62 (.agg #[.int .i64 (c : Int), .int .i64 (q : Int)])
def Fault (e : Ending) (c q : Nat) : Prop := e = .panicked [{ v := faultV c q, recovered := false }]
/-- The reader at block g: the tokens that are left, and where the text ends; the tokens lie in memory that was there ahead of it. -/
def Rd (W0 w : World) (g E : Nat) (T : List Tok) : Prop :=
  Below W0.heap.size W0 w ∧ W0.heap.size ≤ g ∧ ∃ v, w.heap[g]? = some (.cells #[v, .int .i64 (E : Int)] 64 (0, 0)) ∧ GSl TokE encT W0 v T
/-- What a call that takes tokens comes to. -/
def Took {α : Type} (W0 w : World) (g E : Nat) (R : World → α → Value → Prop) (r : Res (α × List Tok)) (e : Ending) (w' : World) : Prop :=
  w.grownBy w' (some g) ∧ match r with
  | .ok (a, T') => (∃ v, e = .returned v ∧ R w' a v) ∧ Rd W0 w' g E T'
  | .error (c, q) => Fault e c q
/-- The token at hand. -/
def hd (E : Nat) : List Tok → Tok
  | [] => ⟨0, E, [], 0⟩
  | t :: _ => t

theorem Rd.size {W0 w : World} {g E : Nat} {T : List Tok} (h : Rd W0 w g E T) : W0.heap.size ≤ g ∧ g < w.heap.size := by
  obtain ⟨_, h1, v, h2, _⟩ := h
  exact ⟨h1, (Array.getElem?_eq_some_iff.1 h2).1⟩
theorem below_by {W0 w w' : World} {g : Nat} (h : Below W0.heap.size W0 w) (hg : W0.heap.size ≤ g) (hgr : w.grownBy w' (some g)) : Below W0.heap.size W0 w' :=
  ⟨hgr.os.trans h.os, hgr.tape.trans h.tape, hgr.output.trans h.output, Nat.le_trans h.size hgr.size, fun k hk => (hgr.block k (by have := h.size; omega) (by simp; omega)).trans (h.block k hk)⟩
theorem Rd.below {W0 w w' : World} {g E : Nat} {T : List Tok} (h : Rd W0 w g E T) (hb : Below w.heap.size w w') : Rd W0 w' g E T := by
  obtain ⟨h0, h1, v, h2, h3⟩ := h
  exact ⟨h0.trans (hb.mono h0.size), h1, v, (hb.block g (Array.getElem?_eq_some_iff.1 h2).1).trans h2, h3⟩
theorem grown_below {w w' : World} {g : Nat} (hb : Below w.heap.size w w') : w.grownBy w' (some g) :=
  ⟨hb.os, hb.tape, hb.output, hb.size, fun k hk _ => hb.block k hk⟩
theorem grown_trans {a b c : World} {g : Nat} (h : a.grownBy b (some g)) (h' : b.grownBy c (some g)) : a.grownBy c (some g) :=
  ⟨h'.os.trans h.os, h'.tape.trans h.tape, h'.output.trans h.output, Nat.le_trans h.size h'.size, fun k hk hne => (h'.block k (Nat.lt_of_lt_of_le hk h.size) hne).trans (h.block k hk hne)⟩
theorem gb_refl (w : World) (g : Nat) : w.grownBy w (some g) := ⟨rfl, rfl, rfl, Nat.le_refl _, fun _ _ _ => rfl⟩
theorem gb_alloc {w w' : World} {g : Nat} (h : w.grownBy w' (some g)) (o : Obj) : w.grownBy (w'.alloc o) (some g) :=
  grown_trans h (grown_below ((Below.refl _ _).alloc (Nat.le_refl _) o))
theorem gb_setCell {w w' : World} {g : Nat} (h : w.grownBy w' (some g)) {k : Nat} (hk : k = g ∨ w.heap.size ≤ k) (i : Nat) (v : Value) : w.grownBy (w'.setCell ⟨k, i, none⟩ v) (some g) :=
  ⟨h.os, h.tape, h.output, by rw [tc_size]; exact h.size, fun j hj hne => (tc_far (by rintro rfl; rcases hk with rfl | hk; exact hne rfl; omega) v).trans (h.block j hj hne)⟩
theorem gb_setRow {w w' : World} {g : Nat} (h : w.grownBy w' (some g)) {k : Nat} (hk : k = g ∨ w.heap.size ≤ k) (cs : Array Value) : w.grownBy (w'.setRow k cs) (some g) :=
  ⟨h.os, h.tape, h.output, by rw [setRow_size]; exact h.size, fun j hj hne => (setRow_other w' k j cs (by rintro rfl; rcases hk with rfl | hk; exact hne rfl; omega)).trans (h.block j hj hne)⟩
theorem Rd.alloc {W0 w : World} {g E : Nat} {T : List Tok} (h : Rd W0 w g E T) (o : Obj) : Rd W0 (w.alloc o) g E T := h.below ((Below.refl _ _).alloc (Nat.le_refl _) o)
theorem rd_setRow {W0 w : World} {g E : Nat} {T : List Tok} (h : Rd W0 w g E T) {k : Nat} (hk : k ≠ g) (hk2 : W0.heap.size ≤ k) (cs : Array Value) : Rd W0 (w.setRow k cs) g E T := by
  obtain ⟨h0, h1, v, h2, h3⟩ := h
  exact ⟨below_setRow h0 hk2 _, h1, v, (setRow_other _ _ _ _ (Ne.symm hk)).trans h2, h3⟩
theorem rd_setCell {W0 w : World} {g E : Nat} {T : List Tok} (h : Rd W0 w g E T) {k : Nat} (hk : k ≠ g) (hk2 : W0.heap.size ≤ k) (i : Nat) (v : Value) : Rd W0 (w.setCell ⟨k, i, none⟩ v) g E T := by
  obtain ⟨h0, h1, u, h2, h3⟩ := h
  exact ⟨tc_below h0 hk2 _ _, h1, u, (tc_far hk _).trans h2, h3⟩
theorem gb_own {w w1 w2 : World} {g : Nat} {b : Option Nat} (h : w.grownBy w1 (some g)) (h' : w1.grownBy w2 b) (hb : ∀ k, b = some k → w.heap.size ≤ k) : w.grownBy w2 (some g) :=
  ⟨h'.os.trans h.os, h'.tape.trans h.tape, h'.output.trans h.output, Nat.le_trans h.size h'.size, fun k hk hne => (h'.block k (Nat.lt_of_lt_of_le hk h.size) (fun hq => by have := hb k hq.symm; omega)).trans (h.block k hk hne)⟩
theorem rd_own {W0 w1 w2 : World} {g E : Nat} {T : List Tok} {b : Option Nat} (h : Rd W0 w1 g E T) (h' : w1.grownBy w2 b) (hb : ∀ k, b = some k → g < k) : Rd W0 w2 g E T := by
  obtain ⟨h0, h1, v, h2, h3⟩ := h
  refine ⟨⟨h'.os.trans h0.os, h'.tape.trans h0.tape, h'.output.trans h0.output, Nat.le_trans h0.size h'.size, fun k hk => (h'.block k (by have := h0.size; omega) (fun hq => by have := hb k hq.symm; omega)).trans (h0.block k hk)⟩, h1, v, ?_, h3⟩
  exact (h'.block g (Array.getElem?_eq_some_iff.1 h2).1 (fun hq => by have := hb g hq.symm; omega)).trans h2
theorem own_by {w w' : World} {g B : Nat} (hgr : w.grownBy w' (some g)) (hB : g < B) {e : TypeId} {s : Nat} {u : Value} {m : Nat} {ys : List Value} (h : w.ownsRow B e s u m ys) : w'.ownsRow B e s u m ys :=
  own_grown hgr h fun k hk hu => by
    obtain rfl := Option.some.inj hk
    have := (h.lt g hu).1
    omega
/-- The tokens behind the first one. -/
theorem gsl_tail {w : World} {t : Tok} {T : List Tok} {b off cap : Nat} (h : GSl TokE encT w (.slice (some ⟨b, off, none⟩) (T.length + 1) cap) (t :: T)) (o' : Option Addr) (ho : T ≠ [] → o' = some ⟨b, off + 4, none⟩) : GSl TokE encT w (.slice o' T.length (cap - 1)) T := by
  obtain ⟨o, cap', h1, h2, h3, h4⟩ := h
  simp only [Value.slice.injEq, List.length_cons] at h1 h2
  obtain ⟨rfl, _, rfl⟩ := h1
  refine ⟨o', cap - 1, rfl, by omega, by omega, fun i hi => ?_⟩
  obtain ⟨g, off', cur, ty, fr, e1, e2, e3⟩ := h4 (i + 1) (by simpa using hi)
  simp only [Option.some.injEq, Addr.mk.injEq] at e1
  obtain ⟨rfl, rfl, _⟩ := e1
  refine ⟨b, off + 4, cur, ty, fr, ho (by rintro rfl; simp at hi), e2, fun j hj => ?_⟩
  have := e3 j hj
  rw [List.getElem_cons_succ] at this
  rw [← this]
  congr 1
  show off + 4 + i * 4 + j = off + (i + 1) * 4 + j
  omega
end Go.Proofs.YtnbklmmampdbfaaDoor
namespace Go.Proofs.YtnbklmmampdbfaaDoor
open Go Go.RowKit
set_option maxRecDepth 20000

theorem retE {E : El} (H : E.Ok) {fn : Func} {R : Ending → World → Prop} {a : Act} {w : World} {p : Tmp} (hr : fn.results = #[.cell p E.elem]) (hd : a.defers = []) (g : Nat) (hp : a.tmps.getD p undef = .pointer (some ⟨g, 0, none⟩)) (cs : Array Value) (hcs : cs.size = E.size)
    (hg : w.heap[g]? = some (.cells cs E.elem (0, 0))) (h : R (.returned (.agg cs)) w) : bodyPost Tryd.prog fn R .ret a w := by
  refine bodyPost_ret (v := .agg cs) ?_ hd h
  rw [Array.getD_eq_getD_getElem?] at hp
  have hl := H.load w g 0 cs E.elem (0, 0) cs hcs hg (own_cells _ _)
  simp [results, hr, hp, asAddr, hl]
theorem retBE {E : El} (H : E.Ok) {fn : Func} {R : Ending → World → Prop} {a : Act} {w : World} {u p : Tmp} (hr : fn.results = #[.tmp u, .cell p E.elem]) (hd : a.defers = []) (g : Nat) (hp : a.tmps.getD p undef = .pointer (some ⟨g, 0, none⟩)) (cs : Array Value) (hcs : cs.size = E.size)
    (hg : w.heap[g]? = some (.cells cs E.elem (0, 0))) (v : Value) (hu : a.tmps.getD u undef = v) (h : R (.returned (.tuple #[v, .agg cs])) w) : bodyPost Tryd.prog fn R .ret a w := by
  refine bodyPost_ret (v := .tuple #[v, .agg cs]) ?_ hd h
  rw [Array.getD_eq_getD_getElem?] at hp hu
  have hl := H.load w g 0 cs E.elem (0, 0) cs hcs hg (own_cells _ _)
  simp [results, hr, hp, hu, asAddr, hl]

set_option maxHeartbeats 2000000 in
theorem peek_any (W0 w : World) (g E : Nat) (T : List Tok) (h : Rd W0 w g E T) :
    Calls Tryd.prog 43 #[.pointer (some ⟨g, 0, none⟩)] w fun e w' => e = .returned (.agg (encT (hd E T))) ∧ Below w.heap.size w w' := by
  obtain ⟨h0, h1, v, h2, h3⟩ := h
  have hgl := (Array.getElem?_eq_some_iff.1 h2).1
  have h3' := h3.below h0
  cases T with
  | nil =>
    obtain ⟨o, cap, rfl, _, _⟩ := h3'.slice
    have c0 : ∀ x, (w.alloc x).cell? ⟨g, 0, none⟩ = some (.slice o 0 cap) := fun x => by rw [cell_of_row _ _ _ _ _ _ (heap_past _ _ _ _ h2)]; rfl
    have c1 : ∀ x, (w.alloc x).cell? ⟨g, 1, none⟩ = some (.int .i64 (E : Int)) := fun x => by rw [cell_of_row _ _ _ _ _ _ (heap_past _ _ _ _ h2)]; rfl
    clear h0 h1 h2 h3 h3'
    go_enter Tryd.func43, Tryd.ntmps43
    go_wp2_with (first
      | (refine wl_storeE (E := TokE) TokOk rfl _ _ rfl w.heap.size (tv 0 (E : Nat) ⟨#[]⟩ 0) (tv_fits _ _ _ _) rfl rfl _ (heap_new _ _ _ rfl) rfl _ (setRow_new _ _ _ _ _ rfl) ?_))
    refine retE (E := TokE) TokOk rfl rfl w.heap.size rfl (tv 0 (E : Nat) ⟨#[]⟩ 0) rfl (heap_new _ _ _ rfl) ?_
    exact ⟨rfl, (Below.refl _ _).alloc (Nat.le_refl _) _⟩
  | cons t T =>
    obtain ⟨o, cap, rfl, hcap, hm⟩ := h3'.slice
    obtain ⟨b, off, cur, ty, fr, c, rfl, hb, hc, hck⟩ := h3'.at 0 (by simp)
    obtain rfl : t = c := by simpa using hck
    have c0 : ∀ x, (w.alloc x).cell? ⟨g, 0, none⟩ = some (.slice (some ⟨b, off, none⟩) (T.length + 1) cap) := fun x => by rw [cell_of_row _ _ _ _ _ _ (heap_past _ _ _ _ h2)]; rfl
    have HB : Hid (∀ x, (w.alloc x).heap[b]? = some (.cells cur ty fr)) := fun x => heap_past _ _ _ _ hb
    have HC : Hid (∀ j, j < 4 → cur[off + 0 * 4 + j]? = (encT t)[j]?) := hc
    have hl : ((T.length : Int) + 1 == 0) = false := by simp; omega
    simp only [List.length_cons] at hcap
    unfold maxLen at hm
    clear h0 h1 h2 h3 h3' hb hc hck
    go_enter Tryd.func43, Tryd.ntmps43
    go_wp2_with (first
      | (refine wl_loadE (E := TokE) TokOk rfl _ rfl b (off + 0 * 4) rfl cur ty fr (encT t) rfl (HB.out _) HC.out ?_)
      | (refine wl_storeE (E := TokE) TokOk rfl _ _ rfl w.heap.size (encT t) (tv_fits _ _ _ _) rfl rfl _ (heap_new _ _ _ rfl) rfl _ (setRow_new _ _ _ _ _ rfl) ?_))
    refine retE (E := TokE) TokOk rfl rfl w.heap.size rfl (encT t) rfl (heap_new _ _ _ rfl) ?_
    exact ⟨rfl, (Below.refl _ _).alloc (Nat.le_refl _) _⟩
theorem tok_cells {w : World} {b : Nat} {t : Tok} {ty : TypeId} {fr : Nat × Nat} (h : w.heap[b]? = some (.cells (encT t) ty fr)) :
    w.cell? ⟨b, 0, none⟩ = some (.int .i64 (t.kind : Int)) ∧ w.cell? ⟨b, 1, none⟩ = some (.int .i64 (t.pos : Int)) ∧ w.cell? ⟨b, 2, none⟩ = some (.string ⟨t.text.toArray⟩) ∧ w.cell? ⟨b, 3, none⟩ = some (.int .i64 (t.num : Int)) := by
  refine ⟨?_, ?_, ?_, ?_⟩ <;> (rw [cell_of_row _ _ _ _ _ _ h]; rfl)
theorem tok_f0 (t : Tok) (W : World) : (Instr.field 88 (.agg (encT t)) 0).run Tryd.prog W = .ok (.int .i64 (t.kind : Int)) W := by kernel_rfl
theorem tok_f1 (t : Tok) (W : World) : (Instr.field 88 (.agg (encT t)) 1).run Tryd.prog W = .ok (.int .i64 (t.pos : Int)) W := by kernel_rfl
theorem tok_f2 (t : Tok) (W : World) : (Instr.field 88 (.agg (encT t)) 2).run Tryd.prog W = .ok (.string ⟨t.text.toArray⟩) W := by kernel_rfl
theorem takeK_no {E k : Nat} {T : List Tok} (h : (hd E T).kind ≠ k) : takeK E k T = .error (8, (hd E T).pos) := by
  cases T with
  | nil => rfl
  | cons t T => exact if_neg h
theorem takeK_yes {E k : Nat} (hk : k ≠ 0) {T : List Tok} (h : (hd E T).kind = k) : ∃ T', T = hd E T :: T' ∧ takeK E k T = .ok (hd E T, T') := by
  cases T with
  | nil => exact absurd h.symm hk
  | cons t T => exact ⟨T, rfl, if_pos h⟩

theorem slice_tail (b off n cap : Nat) (h : n + 1 ≤ cap) (hm : cap ≤ 2 ^ 63 - 1) (T' : List Tok) (hT : T'.length = n) : ∃ o' : Option Addr, (T' ≠ [] → o' = some ⟨b, off + 4, none⟩) ∧ ∀ W, (Instr.sliceAt 58 (.slice (some ⟨b, off, none⟩) (n + 1) cap) (some (.int .i64 1)) none none).run Tryd.prog W = .ok (.slice o' n (cap - 1)) W := by
  by_cases hc : cap = 1
  · subst hc
    refine ⟨some ⟨b, off, none⟩, fun hn => ?_, fun W => ?_⟩
    · exfalso
      exact hn (List.length_eq_zero_iff.1 (by omega))
    · obtain rfl : n = 0 := by omega
      simp [go_sem, Tryd.underlying58]
  · refine ⟨some ⟨b, off + 4, none⟩, fun _ => rfl, fun W => ?_⟩
    simp [go_sem, Tryd.underlying58]
    rw [if_pos (by omega), if_neg hc]

set_option maxHeartbeats 2000000 in
theorem take_any (W0 w : World) (g E k : Nat) (hk : k ≠ 0) (T : List Tok) (h : Rd W0 w g E T) :
    Calls Tryd.prog 44 #[.pointer (some ⟨g, 0, none⟩), .int .i64 (k : Int)] w fun e w' => Took W0 w g E (fun _ t v => v = .agg (encT t)) (takeK E k T) e w' := by
  have C1 : Hid (∀ W, Below w.heap.size w W → Calls Tryd.prog 43 #[.pointer (some ⟨g, 0, none⟩)] W fun e w' => e = .returned (.agg (encT (hd E T))) ∧ Below W.heap.size W w') := fun W hb => peek_any W0 W g E T (h.below hb)
  have hgl := h.size
  have H : Hid (Rd W0 w g E T) := h
  clear h
  by_cases hc : (hd E T).kind = k
  · obtain ⟨T', hT, hR⟩ := takeK_yes hk hc
    have HR : Hid (takeK E k T = .ok (hd E T, T')) := hR
    have hne : (((hd E T).kind : Int) != (k : Int)) = false := by simp; omega
    have HT : Hid (T = hd E T :: T') := hT
    obtain ⟨t, ht⟩ : ∃ t, t = hd E T := ⟨_, rfl⟩
    rw [← ht] at C1 hne HR HT
    clear hc hR ht hT
    go_enter Tryd.func44, Tryd.ntmps44
    go_wp2_with fail
    refine (C1.out _ ?_).mono ?_
    · exact (Below.refl _ _).alloc (Nat.le_refl _) _
    rintro e w1 ⟨rfl, hb1⟩
    have B1 : Below w.heap.size w w1 := ((Below.refl _ _).alloc (Nat.le_refl _) _).trans (hb1.mono (by simp))
    have z1 : w.heap.size < w1.heap.size := by have := hb1.size; simp at this; omega
    have hr1 : Hid (w1.heap[w.heap.size]? = some (.cells (tv 0 0 ⟨#[]⟩ 0) 88 (0, 0))) := (hb1.block _ (by simp)).trans (heap_new _ _ _ rfl)
    have R1 := H.out.below B1
    obtain ⟨q0, q1, v, q2, q3⟩ := R1
    rw [HT.out] at q3
    obtain ⟨o, cap, rfl, hcap, hm⟩ := q3.slice
    obtain ⟨b, off, cur, ty, fr, c, rfl, _, _, _⟩ := q3.at 0 (by simp)
    have c0 : ∀ x, (w1.alloc x).cell? ⟨g, 0, none⟩ = some (.slice (some ⟨b, off, none⟩) (T'.length + 1) cap) := fun x => by rw [cell_of_row _ _ _ _ _ _ (heap_past _ _ _ _ q2)]; rfl
    have z0 : ∀ x, (w1.alloc x).frozen? ⟨g, 0, none⟩ = false := fun x => tc_frozen (heap_past _ _ _ _ q2) rfl
    obtain ⟨t0, t1, t2, t3⟩ := tok_cells (heap_new w1 (.cells (encT t) 88) _ rfl)
    simp only [List.length_cons] at hcap
    unfold maxLen at hm
    obtain ⟨o', ho', hsl⟩ : ∃ o' : Option Addr, (T' ≠ [] → o' = some ⟨b, off + 4, none⟩) ∧ ∀ W, (Instr.sliceAt 58 (.slice (some ⟨b, off, none⟩) (T'.length + 1) cap) (some (.int .i64 1)) none none).run Tryd.prog W = .ok (.slice o' T'.length (cap - 1)) W := slice_tail b off T'.length cap (by omega) hm T' rfl
    have HQ : Hid (GSl TokE encT W0 (.slice o' T'.length (cap - 1)) T') := gsl_tail q3 o' ho'
    have HQ2 : Hid (w1.heap[g]? = some (.cells #[.slice (some ⟨b, off, none⟩) (T'.length + 1) cap, .int .i64 (E : Int)] 64 (0, 0))) := q2
    have hrr : Hid (((w1.alloc (.cells (encT t) 88)).setCell ⟨g, 0, none⟩ (.slice o' T'.length (cap - 1))).heap[w.heap.size]? = some (.cells (tv 0 0 ⟨#[]⟩ 0) 88 (0, 0))) := (tc_far (by omega) _).trans (heap_past _ _ _ _ hr1.out)
    clear q2 q3 ho' hr1
    go_wp2_with (first
      | (refine wl_storeE (E := TokE) TokOk rfl _ _ rfl w1.heap.size (encT t) (tv_fits _ _ _ _) rfl rfl _ (heap_new _ _ _ rfl) rfl _ (setRow_new _ _ _ _ _ rfl) ?_)
      | (refine wl_loadE (E := TokE) TokOk rfl _ rfl w1.heap.size 0 rfl _ _ _ (encT t) rfl ((tc_far (by omega) _).trans (heap_new _ _ _ rfl)) (own_cells _ _) ?_)
      | (refine wl_storeE (E := TokE) TokOk rfl _ _ rfl w.heap.size (encT t) (tv_fits _ _ _ _) rfl rfl _ hrr.out rfl _ rfl ?_))
    refine retE (E := TokE) TokOk rfl rfl w.heap.size rfl (encT t) rfl (setRow_heap _ _ _ _ _ _ hrr.out) ?_
    have G1 : w.grownBy w1 (some g) := grown_below B1
    refine ⟨gb_setRow (gb_setCell (gb_alloc G1 _) (.inl rfl) _ _) (.inr (Nat.le_refl _)) _, ?_⟩
    rw [HR.out]
    refine ⟨⟨_, rfl, rfl⟩, below_setRow (tc_below (q0.alloc q0.size _) q1 _ _) (by omega) _, q1, _, ?_, HQ.out⟩
    rw [setRow_other _ _ _ _ (by omega), tc_row (heap_past _ _ _ _ HQ2.out)]
    rfl
  · have hR := takeK_no hc
    have HR : Hid (takeK E k T = .error (8, (hd E T).pos)) := hR
    have hne : (((hd E T).kind : Int) != (k : Int)) = true := by simp; omega
    obtain ⟨t, ht⟩ : ∃ t, t = hd E T := ⟨_, rfl⟩
    rw [← ht] at C1 hne HR
    clear hc hR ht
    go_enter Tryd.func44, Tryd.ntmps44
    go_wp2_with fail
    refine (C1.out _ ?_).mono ?_
    · exact (Below.refl _ _).alloc (Nat.le_refl _) _
    rintro e w1 ⟨rfl, hb1⟩
    have B1 : Below w.heap.size w w1 := ((Below.refl _ _).alloc (Nat.le_refl _) _).trans (hb1.mono (by simp))
    obtain ⟨t0, t1, t2, t3⟩ := tok_cells (heap_new w1 (.cells (encT t) 88) _ rfl)
    go_wp2_with (first
      | (refine wl_storeE (E := TokE) TokOk rfl _ _ rfl w1.heap.size (encT t) (tv_fits _ _ _ _) rfl rfl _ (heap_new _ _ _ rfl) rfl _ (setRow_new _ _ _ _ _ rfl) ?_))
    refine ⟨rfl, gb_alloc (grown_below B1) _, ?_⟩
    rw [HR.out]
    rfl
end Go.Proofs.YtnbklmmampdbfaaDoor
namespace Go.Proofs.YtnbklmmampdbfaaDoor
open Go Go.RowKit
set_option maxRecDepth 20000

set_option maxHeartbeats 2000000 in
theorem sameWord_any (w : World) (k : Nat) (t : Tok) (c : Cla) (u : Value) (hu : ∃ o n m, u = .slice o n m) (hk : w.heap[k]? = some (.cells (encT t) 88 (0, 0))) :
    Calls Tryd.prog 83 #[.agg (claV c u), .pointer (some ⟨k, 0, none⟩)] w fun e w' => e = .returned (.bool (c.word == t.text)) ∧ Below w.heap.size w w' := by
  obtain ⟨o, n, m, rfl⟩ := hu
  have t2 : ∀ x, (w.alloc x).cell? ⟨k, 2, none⟩ = some (.string ⟨t.text.toArray⟩) := fun x => (tok_cells (heap_past _ x _ _ hk)).2.2.1
  have n0 := heap_new w (.cells (claV c (.slice o n m)) 100) _ rfl
  have c0 : (w.alloc (.cells (claV c (.slice o n m)) 100)).cell? ⟨w.heap.size, 0, none⟩ = some (.string ⟨c.word.toArray⟩) := by rw [cell_of_row _ _ _ _ _ _ n0]; rfl
  clear hk n0
  go_enter Tryd.func83, Tryd.ntmps83
  go_wp2_with fail
  go_ret
  exact ⟨rfl, (Below.refl _ _).alloc (Nat.le_refl _) _⟩

theorem any_take_succ {C : List Cla} {j : Nat} {c : Cla} (h : C[j]? = some c) (q : Cla → Bool) : (C.take (j + 1)).any q = ((C.take j).any q || q c) := by
  obtain ⟨hj, rfl⟩ := List.getElem?_eq_some_iff.1 h
  rw [List.take_succ_eq_append_getElem hj, List.any_append]
  simp
set_option maxHeartbeats 4000000 in
theorem indexFunc_any {R : World → Cla → Value → Prop} (hR : ∀ w c u, R w c u → ∃ o n m, u = .slice o n m) (w : World) (v : Value) (C : List Cla) (h : NSl ClaE claV R w v C) (k : Nat) (t : Tok) (hk : w.heap[k]? = some (.cells (encT t) 88 (0, 0))) :
    Calls Tryd.prog 85 #[v, .func (.func 83) #[] #[.pointer (some ⟨k, 0, none⟩)]] w fun e w' => (∃ i : Int, e = .returned (.int .i64 i) ∧ ((decide (0 ≤ i)) = C.any (fun c => c.word == t.text))) ∧ Below w.heap.size w w' := by
  obtain ⟨o, cap, rfl, hcap, hm⟩ := h.slice
  have CS : Hid (∀ W c u, (∃ o n m, u = .slice o n m) → Below w.heap.size w W → Calls Tryd.prog 83 #[.agg (claV c u), .pointer (some ⟨k, 0, none⟩)] W fun e w' => e = .returned (.bool (c.word == t.text)) ∧ Below W.heap.size W w') := fun W c u hu hb => sameWord_any W k t c u hu ((hb.block k (Array.getElem?_eq_some_iff.1 hk).1).trans hk)
  obtain ⟨n, hn⟩ : ∃ n, n = C.length := ⟨_, rfl⟩
  have HN : Hid (n = C.length) := hn
  rw [← hn] at h hcap ⊢
  have H : Hid (NSl ClaE claV R w (.slice o n cap) C) := h
  unfold maxLen at hm
  clear h hk hn
  go_enter Tryd.func85, Tryd.ntmps85
  go_wp2_with fail
  go_loopw [8] (fun x wr => ∃ j : Nat, j ≤ n ∧ x = .int .i64 (j : Int) ∧ Hid ((C.take j).any (fun c => c.word == t.text) = false) ∧ Below w.heap.size w wr) (fun x _ => n - (intOf x).toNat)
  case atStart => exact ⟨0, Nat.zero_le _, rfl, rfl, Below.refl _ _⟩
  case round =>
    obtain ⟨j, hj, rfl, HJ, hb⟩ := hrel
    by_cases hlt : j < n
    · obtain ⟨g, off, cur, ty, fr, c, u, rfl, hg, hc, hCj, hr⟩ := H.out.at j hlt
      obtain ⟨o1, n1, m1, rfl⟩ := hR _ _ _ hr
      have k1 : Hid (wr.heap[g]? = some (.cells cur ty fr)) := (hb.block g (Array.getElem?_eq_some_iff.1 hg).1).trans hg
      have H1 : Hid (∀ i, i < 5 → cur[off + j * 5 + i]? = (claV c (.slice o1 n1 m1))[i]?) := hc
      have HT := any_take_succ hCj (fun c => c.word == t.text)
      rw [HJ.out, Bool.false_or] at HT
      have HTT : Hid ((C.take (j + 1)).any (fun c => c.word == t.text) = (c.word == t.text)) := HT
      have hlt' : (j : Int) < (n : Int) := by omega
      clear hg hc hCj hr HT
      go_wp2_with (first
        | (refine wl_loadE (E := ClaE) ClaOk rfl _ rfl g (off + j * 5) rfl cur ty fr (claV c (.slice o1 n1 m1)) rfl k1.out H1.out ?_))
      refine (CS.out _ c _ ⟨_, _, _, rfl⟩ hb).mono ?_
      rintro e w1 ⟨rfl, hb1⟩
      have B1 := hb.trans (hb1.mono hb.size)
      clear hb hb1
      by_cases hq : (c.word == t.text) = true
      · have HALL : Hid (C.any (fun c => c.word == t.text) = true) := by
          show _ = _
          have := HTT.out
          rw [hq] at this
          obtain ⟨x, hx, hx2⟩ := List.any_eq_true.1 this
          exact List.any_eq_true.2 ⟨x, List.mem_of_mem_take hx, hx2⟩
        rw [hq]
        clear hq
        go_wp2_with fail
        go_ret
        refine ⟨⟨_, rfl, ?_⟩, B1⟩
        rw [HALL.out]
        simp
      · have hq' : (c.word == t.text) = false := by simpa using hq
        rw [hq'] at HTT
        rw [hq']
        clear hq hq'
        go_wp2_with fail
        go_roundw
        case rel => exact ⟨j + 1, by omega, by go_num, HTT, B1⟩
        case measure => simp [intOf]; omega
    · have hlt' : (n : Int) ≤ (j : Int) := by omega
      have HALL : Hid (C.any (fun c => c.word == t.text) = false) := by
        show _ = _
        have := HJ.out
        rwa [List.take_of_length_le (by have := HN.out; omega)] at this
      go_wp2_with fail
      go_ret
      refine ⟨⟨_, rfl, ?_⟩, hb⟩
      rw [HALL.out]
      decide
set_option maxHeartbeats 2000000 in
theorem containsFunc_any {R : World → Cla → Value → Prop} (hR : ∀ w c u, R w c u → ∃ o n m, u = .slice o n m) (w : World) (v : Value) (C : List Cla) (h : NSl ClaE claV R w v C) (k : Nat) (t : Tok) (hk : w.heap[k]? = some (.cells (encT t) 88 (0, 0))) :
    Calls Tryd.prog 68 #[v, .func (.func 83) #[] #[.pointer (some ⟨k, 0, none⟩)]] w fun e w' => e = .returned (.bool (C.any (fun c => c.word == t.text))) ∧ Below w.heap.size w w' := by
  have C1 : Hid (Calls Tryd.prog 85 #[v, .func (.func 83) #[] #[.pointer (some ⟨k, 0, none⟩)]] w fun e w' => (∃ i : Int, e = .returned (.int .i64 i) ∧ ((decide (0 ≤ i)) = C.any (fun c => c.word == t.text))) ∧ Below w.heap.size w w') := indexFunc_any hR w v C h k t hk
  obtain ⟨b, hb⟩ : ∃ b, b = C.any (fun c => c.word == t.text) := ⟨_, rfl⟩
  rw [← hb] at C1 ⊢
  clear h hk hb
  go_enter Tryd.func68, Tryd.ntmps68
  go_wp2_with fail
  refine C1.out.mono ?_
  rintro e w1 ⟨⟨i, rfl, hi⟩, hb1⟩
  have HI : Hid (decide (0 ≤ i) = b) := hi
  clear hi
  go_wp2_with fail
  go_ret
  refine ⟨?_, hb1⟩
  rw [← HI.out]
  rfl
end Go.Proofs.YtnbklmmampdbfaaDoor
namespace Go.Proofs.YtnbklmmampdbfaaDoor
open Go
set_option maxRecDepth 20000

/-- A token but for its place. -/
def st (t : Tok) : Nat × List UInt8 × Nat := (t.kind, t.text, t.num)
abbrev St := Nat × List UInt8 × Nat
def Any (_ : List UInt8) : Prop := True
/-- What doesn't go on with a word or a number. -/
def sepY (Y : List UInt8) : Prop := ∀ y, Y.head? = some y → isLet y = false ∧ isDig y = false
def no62 (Y : List UInt8) : Prop := (Y.head? == some 62) = false
/-- Bytes that come to these tokens, ahead of what is fit. -/
def Lexes (X : List UInt8) (ts : List St) (ok : List UInt8 → Prop) : Prop := ∀ (p : Nat) (Y : List UInt8), ok Y → ∃ T, T.map st = ts ∧ lexW p (X ++ Y) = glue T (lexW (p + X.length) Y)
theorem Lexes.append {A B : List UInt8} {ta tb : List St} {okA okB : List UInt8 → Prop} (h1 : Lexes A ta okA) (h2 : Lexes B tb okB) (h : ∀ Y, okB Y → okA (B ++ Y)) : Lexes (A ++ B) (ta ++ tb) okB := by
  intro p Y hY
  obtain ⟨T1, e1, g1⟩ := h1 p (B ++ Y) (h Y hY)
  obtain ⟨T2, e2, g2⟩ := h2 (p + A.length) Y hY
  refine ⟨T1 ++ T2, by rw [List.map_append, e1, e2], ?_⟩
  rw [List.append_assoc, g1, g2, glue_glue, List.length_append, Nat.add_assoc]
theorem Lexes.nil (ok : List UInt8 → Prop) : Lexes [] [] ok := fun p Y _ => ⟨[], rfl, by rw [glue_nil]; rfl⟩
theorem Lexes.weaken {A : List UInt8} {ta : List St} {ok ok' : List UInt8 → Prop} (h : Lexes A ta ok) (hw : ∀ Y, ok' Y → ok Y) : Lexes A ta ok' := fun p Y hY => h p Y (hw Y hY)

theorem takeWhile_none (q : UInt8 → Bool) (Y : List UInt8) (h : ∀ y, Y.head? = some y → q y = false) : Y.takeWhile q = [] := by
  cases Y with
  | nil => rfl
  | cons y Y => rw [List.takeWhile_cons, if_neg (by rw [h y rfl]; decide)]
theorem let_not {c : UInt8} (h : isLet c = true) : isBlank c = false := by
  unfold isLet at h
  simp only [Bool.and_eq_true, decide_eq_true_eq] at h
  unfold isBlank
  simp only [Bool.or_eq_false_iff, beq_eq_false_iff_ne]
  refine ⟨⟨?_, ?_⟩, ?_⟩ <;> rintro rfl <;> simp at h
theorem dig_not {c : UInt8} (h : isDig c = true) : isBlank c = false ∧ isLet c = false := by
  unfold isDig at h
  simp only [Bool.and_eq_true, decide_eq_true_eq] at h
  refine ⟨?_, ?_⟩
  · unfold isBlank
    simp only [Bool.or_eq_false_iff, beq_eq_false_iff_ne]
    refine ⟨⟨?_, ?_⟩, ?_⟩ <;> rintro rfl <;> simp at h
  · unfold isLet
    simp only [Bool.and_eq_false_iff, decide_eq_false_iff_not]
    omega

theorem lx_word (w : List UInt8) (hw : ∀ c ∈ w, isLet c = true) (hne : w ≠ []) : Lexes w [(1, w, 0)] sepY := by
  intro p Y hY
  cases w with
  | nil => exact absurd rfl hne
  | cons c r =>
    have hc := hw c (by simp)
    have ht : (r ++ Y).takeWhile isLet = r := takeWhile_append_stop isLet Y (fun y hy => (hY y hy).1) r fun x hx => hw x (by simp [hx])
    have hx : lexeme c (r ++ Y) = (Lx.tok 1 (c :: r) 0, r.length) := by
      unfold lexeme
      rw [if_neg (by rw [let_not hc]; decide), if_pos hc, ht]
    refine ⟨[⟨1, p, c :: r, 0⟩], rfl, ?_⟩
    rw [List.cons_append, lexW_tok hx, List.drop_left, List.length_cons]
    congr 2; omega
theorem lx_blank : Lexes [32] [] Any := fun p Y _ => ⟨[], rfl, by
  rw [List.singleton_append, lexW_none (lexeme_blank (by decide) Y), glue_nil]; rfl⟩
theorem lx_one (c : UInt8) (k : Nat) (h : ∀ r, lexeme c r = (Lx.tok k [] 0, 0)) : Lexes [c] [(k, [], 0)] Any := fun p Y _ => ⟨[⟨k, p, [], 0⟩], rfl, by
  rw [List.singleton_append, lexW_tok (h Y)]; rfl⟩
theorem lx_dot : Lexes [46] [(3, [], 0)] Any := lx_one 46 3 fun r => by
  unfold lexeme
  rw [if_neg (by decide), if_neg (by decide), if_neg (by decide), if_pos (by decide)]
theorem lx_slash : Lexes [47] [(4, [], 0)] Any := lx_one 47 4 fun r => by
  unfold lexeme
  rw [if_neg (by decide), if_neg (by decide), if_neg (by decide), if_neg (by decide), if_pos (by decide)]
theorem lx_line : Lexes [10] [(7, [], 0)] Any := lx_one 10 7 lexeme_line
theorem lx_dash : Lexes [45] [(5, [], 0)] no62 := fun p Y hY => ⟨[⟨5, p, [], 0⟩], rfl, by
  have hx : lexeme 45 Y = (Lx.tok 5 [] 0, 0) := by
    unfold lexeme
    rw [if_neg (by decide), if_neg (by decide), if_neg (by decide), if_neg (by decide), if_neg (by decide), if_pos (by decide), if_neg (by rw [hY]; decide)]
  rw [List.singleton_append, lexW_tok hx]; rfl⟩
theorem lx_arrow : Lexes [45, 62] [(6, [], 0)] Any := fun p Y _ => ⟨[⟨6, p, [], 0⟩], rfl, by
  have hx : lexeme 45 (62 :: Y) = (Lx.tok 6 [] 0, 1) := by
    unfold lexeme
    rw [if_neg (by decide), if_neg (by decide), if_neg (by decide), if_neg (by decide), if_neg (by decide), if_pos (by decide), if_pos (by simp)]
  rw [List.cons_append, List.singleton_append, lexW_tok hx]; rfl⟩

/-! Digits. -/
theorem dig_of (k : Nat) (h : k < 10) : isDig (UInt8.ofNat (48 + k)) = true ∧ (UInt8.ofNat (48 + k)).toNat - 48 = k ∧ (UInt8.ofNat (48 + k) == 48) = decide (k = 0) := by
  rcases (show k = 0 ∨ k = 1 ∨ k = 2 ∨ k = 3 ∨ k = 4 ∨ k = 5 ∨ k = 6 ∨ k = 7 ∨ k = 8 ∨ k = 9 by omega) with e | e | e | e | e | e | e | e | e | e <;> subst e <;> decide
theorem val_append (A : List UInt8) (c : UInt8) : val (A ++ [c]) = val A * 10 + (c.toNat - 48) := by simp [val]
theorem decF_facts : ∀ (f n : Nat), n ≤ f → (∀ c ∈ decF f n, isDig c = true) ∧ decF f n ≠ [] ∧ val (decF f n) = n ∧ (n ≠ 0 → (decF f n).head? ≠ some 48) ∧ (n = 0 → (decF f n).length = 1)
  | 0, n, h => by
    obtain rfl : n = 0 := by omega
    refine ⟨?_, ?_, ?_, ?_, ?_⟩ <;> decide
  | f + 1, n, h => by
    rw [decF]
    by_cases hn : n < 10
    · rw [if_pos hn]
      obtain ⟨h1, h2, h3⟩ := dig_of n hn
      refine ⟨fun c hc => by rw [List.mem_singleton.1 hc]; exact h1, by simp, by simp [val]; exact h2, fun h0 => ?_, fun _ => rfl⟩
      rw [List.head?_cons]
      intro he
      rw [Option.some.inj he] at h3
      simp at h3
      exact h0 h3
    · rw [if_neg hn]
      obtain ⟨g1, g2, g3, g4, g5⟩ := decF_facts f (n / 10) (by omega)
      obtain ⟨h1, h2, _⟩ := dig_of (n % 10) (by omega)
      refine ⟨fun c hc => ?_, by simp, ?_, fun _ => ?_, fun h0 => by omega⟩
      · rcases List.mem_append.1 hc with hc | hc
        · exact g1 c hc
        · rw [List.mem_singleton.1 hc]; exact h1
      · rw [val_append, g3, h2]; omega
      · have := g4 (by omega)
        cases hd : decF f (n / 10) with
        | nil => exact absurd hd g2
        | cons c r => rw [hd] at this; simpa using this
theorem dec_facts (n : Nat) : (∀ c ∈ dec n, isDig c = true) ∧ dec n ≠ [] ∧ val (dec n) = n ∧ (n ≠ 0 → (dec n).head? ≠ some 48) ∧ (n = 0 → (dec n).length = 1) := decF_facts n n (Nat.le_refl _)
theorem numOf_dec (n : Nat) (h : n ≤ 4294967295) : numOf (dec n) = some n := by
  obtain ⟨_, _, h3, h4, h5⟩ := dec_facts n
  unfold numOf
  rw [h3, if_neg]
  simp only [Bool.or_eq_true, decide_eq_true_eq, Bool.and_eq_true, beq_iff_eq]
  rintro (h6 | ⟨h6, h7⟩)
  · omega
  · by_cases h0 : n = 0
    · have := h5 h0; omega
    · exact h4 h0 h7
theorem lx_num (n : Nat) (h : n ≤ 4294967295) : Lexes (dec n) [(2, [], n)] sepY := by
  intro p Y hY
  have hn := numOf_dec n h
  obtain ⟨h1, h2, _⟩ := dec_facts n
  cases hd : dec n with
  | nil => exact absurd hd h2
  | cons c r =>
    rw [hd] at h1 hn
    have hc := h1 c (by simp)
    have ht : (r ++ Y).takeWhile isDig = r := takeWhile_append_stop isDig Y (fun y hy => (hY y hy).2) r fun x hx => h1 x (by simp [hx])
    have hx : lexeme c (r ++ Y) = (Lx.tok 2 [] n, r.length) := by
      unfold lexeme
      rw [if_neg (by rw [(dig_not hc).1]; decide), if_neg (by rw [(dig_not hc).2]; decide), if_pos hc, ht, hn]
    refine ⟨[⟨2, p, [], n⟩], rfl, ?_⟩
    rw [List.cons_append, lexW_tok hx, List.drop_left, List.length_cons]
    congr 2; omega

/-- A number that a text may hold. -/
def okF (x : Fig) : Prop := 0 ≤ x.n ∧ x.n ≤ 4294967295
theorem lx_fig (x : Fig) (h : okF x) : Lexes (decI x.n) [(2, [], x.n.toNat)] sepY := by
  unfold decI
  rw [if_pos h.1]
  exact lx_num _ (by have := h.2; omega)
theorem decI_head (x : Fig) (h : okF x) (Y : List UInt8) : no62 (decI x.n ++ Y) := by
  unfold decI no62
  rw [if_pos h.1]
  obtain ⟨h1, h2, _⟩ := dec_facts x.n.toNat
  cases hd : dec x.n.toNat with
  | nil => exact absurd hd h2
  | cons c r =>
    rw [hd] at h1
    have hc := h1 c (by simp)
    simp only [List.cons_append, List.head?_cons]
    cases e : ((some c : Option UInt8) == some 62) with
    | false => rfl
    | true =>
      obtain rfl : c = 62 := by simpa using e
      exact absurd hc (by decide)
def signT (s : UInt8) : St := (if s = 47 then 4 else if s = 45 then 5 else 3, [], 0)
/-- The tokens of numbers with a sign between. -/
def numsT (s : UInt8) : List Fig → List St
  | [] => []
  | [x] => [signT s, (2, [], x.n.toNat)]
  | x :: y :: l => (3, [], 0) :: (2, [], x.n.toNat) :: numsT s (y :: l)
theorem sep_cons {c : UInt8} (h : isLet c = false ∧ isDig c = false) (Y : List UInt8) : sepY (c :: Y) := fun y hy => by
  obtain rfl : c = y := by simpa using hy
  exact h
theorem lx_sign (s : UInt8) (hs : s = 47 ∨ s = 45 ∨ s = 46) (x : Fig) (hx : okF x) : Lexes (s :: decI x.n) [signT s, (2, [], x.n.toNat)] sepY := by
  rcases hs with rfl | rfl | rfl
  · exact lx_slash.append (lx_fig x hx) (fun _ _ => trivial)
  · exact lx_dash.append (lx_fig x hx) (fun Y _ => decI_head x hx Y)
  · exact lx_dot.append (lx_fig x hx) (fun _ _ => trivial)
theorem numsP_sep (s : UInt8) (hs : s = 47 ∨ s = 45 ∨ s = 46) : ∀ (l : List Fig) (Y : List UInt8), sepY Y → sepY (numsP s l ++ Y)
  | [], Y, hY => hY
  | [x], Y, _ => by rcases hs with rfl | rfl | rfl <;> exact sep_cons (by decide) _
  | x :: y :: l, Y, _ => sep_cons (by decide) _
theorem lx_nums (s : UInt8) (hs : s = 47 ∨ s = 45 ∨ s = 46) : ∀ l : List Fig, (∀ x ∈ l, okF x) → Lexes (numsP s l) (numsT s l) sepY
  | [], _ => Lexes.nil _
  | [x], h => lx_sign s hs x (h x (by simp))
  | x :: y :: l, h => by
    have h1 := lx_dot.append (lx_fig x (h x (by simp))) (fun _ _ => trivial)
    exact h1.append (lx_nums s hs (y :: l) fun z hz => h z (by simp [hz])) (fun Y hY => numsP_sep s hs (y :: l) Y hY)
theorem lastSign_ok (c : Cla) : lastSign c = 47 ∨ lastSign c = 45 ∨ lastSign c = 46 := by
  unfold lastSign
  cases c.slash <;> cases c.dash <;> simp
end Go.Proofs.YtnbklmmampdbfaaDoor
