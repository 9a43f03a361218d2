import Derived.Test.YteongcihannldaaRows
import Derived.Test.YteongcihannldaaProg
import Derived.ProofKit
import Derived.OpenShut
import Derived.Carry
import Derived.WalkKit
import Derived.WalkSpells
import Derived.WalkLawsBesides
import Derived.BigQuiet
import Derived.KernelRfl
import Derived.Laws.StructEq
import Derived.Laws.Tables
import Derived.Laws.Rows
import Derived.Great.BuildSlice
import Derived.Laws.AppendOwn
import Derived.Laws.OwnMore
import Derived.Maps.AppendAt
import Derived.OwnWalk
import Derived.Maps.OwnSet
import Derived.Maps.RangeWalk
namespace Go.Proofs.Yteongcihannldaa
open Go.ChangeShapes Go.WideShapes Go.ChangeAt Go.WideMaps Go.WideElems Go.RowKit
set_option maxRecDepth 20000

theorem ownK : ownKnob Try.prog.godebug = none := by kernel_rfl
theorem laidK : laidOutB Try.prog = true := by kernel_rfl
end Go.Proofs.Yteongcihannldaa
namespace Go.Proofs.Yteongcihannldaa
open Go Go.RowKit
set_option maxRecDepth 20000

def hv (L : List Int) : Array Value := (L.map (Value.int .u8)).toArray
structure Later (W : World) where
  world : World
  below : Below W.heap.size W world

theorem Later.ne (W : World) : Nonempty (Later W) := ⟨⟨W, Below.refl _ _⟩⟩

theorem wp_region_later {P : Program} {id : Nat} {Q : Exit → Act → World → Prop} {a : Act} {w : World} {l : List Oper} (hm : P.follows .mixedOrders = true) (hB : Region.lexB .any l.toArray = true)
    (h : wpQuiet P l.toArray (fun w' => ∃ u : Later w, w' = u.world) (fun a' => ∀ w', (∃ u : Later w, w' = u.world) → Q .normal a' w') l a) : (Code.region id l.toArray true).wp P Q a w :=
  wp_region_quiet (C := fun w' => ∃ u : Later w, w' = u.world) hm hB ⟨⟨w.drew, (Below.refl _ _).drew⟩, rfl⟩ (by simpa using h)

theorem Calls.later_of {P : Program} {f : FuncId} {args : Array Value} {W : World} {u : Later W} {v : Value}
    (h : Calls P f args u.world fun e w' => e = .returned v ∧ Below u.world.heap.size u.world w') : Calls P f args u.world fun e w'' => e = .returned v ∧ ∃ u' : Later W, w'' = u'.world :=
  h.mono fun _ w1 ⟨he, hb⟩ => ⟨he, ⟨w1, u.below.trans (hb.mono u.below.size)⟩, rfl⟩

theorem setRow_new (w : World) (old cs : Array Value) (t : TypeId) (g : Nat) (hg : g = w.heap.size) : (w.alloc (.cells old t)).setRow g cs = w.alloc (.cells cs t) := by
  subst hg
  simp only [World.setRow, World.alloc]
  congr 1
  apply Array.ext
  · simp
  · intro k h1 h2
    simp only [Array.getElem_modify, Array.getElem_push]
    by_cases hk : k < w.heap.size
    · simp [hk, show ¬ w.heap.size = k by omega]
    · have : w.heap.size = k := by simp at h2; omega
      simp [this]

theorem below_setRow {B : Nat} {a w : World} (h : Below B a w) {g : Nat} (hg : B ≤ g) (cs : Array Value) : Below B a (w.setRow g cs) :=
  ⟨h.os, h.tape, h.output, by simpa using h.size, fun k hk => (setRow_other w g k cs (by omega)).trans (h.block k hk)⟩

theorem heap_new (w : World) (o : Obj) (g : Nat) (hg : g = w.heap.size) : (w.alloc o).heap[g]? = some o := by rw [hg]; exact heap_alloc_new w o
theorem heap_past (w : World) (o x : Obj) (g : Nat) (h : w.heap[g]? = some x) : (w.alloc o).heap[g]? = some x := by
  rw [Below.heap_alloc w o g (Array.getElem?_eq_some_iff.1 h).1]; exact h

end Go.Proofs.Yteongcihannldaa
namespace Go.Proofs.Yteongcihannldaa
open Go Go.RowKit
set_option maxRecDepth 20000

/-- A type of elements that are structs or arrays, and the type of its slices. -/
structure El where
  elem : TypeId
  slice : TypeId
  size : Nat
  bytes : Nat
  zero : Array Value
/-- What the program says of it. -/
structure El.Ok (E : El) : Prop where
  hs : Try.prog.underlying E.slice = some (.slice E.elem)
  hu : ∃ d, Try.prog.underlying E.elem = some d ∧ (match d with | .struct _ | .array _ _ => true | _ => false) = true
  hi : (Try.prog.info? E.elem).map (fun i => (i.zero, i.size, i.bytes)) = some (some (.agg E.zero), E.size, E.bytes)
  hz : E.zero.size = E.size
  hp : 0 < E.size
  hb : E.bytes ≤ 100000
  hn : E.size ≤ 100000
theorem El.Ok.info {E : El} (H : E.Ok) : ∃ i, Try.prog.info? E.elem = some i ∧ i.zero = some (.agg E.zero) ∧ i.size = E.size ∧ i.bytes = E.bytes := by
  have h1 := H.hi
  cases h : Try.prog.info? E.elem with
  | none => rw [h] at h1; simp at h1
  | some i =>
    rw [h] at h1
    simp only [Option.map_some, Option.some.injEq, Prod.mk.injEq] at h1
    exact ⟨i, rfl, h1.1, h1.2.1, h1.2.2⟩
theorem El.Ok.cellsz {E : El} (H : E.Ok) (cs : Array Value) (hc : cs.size = E.size) : (Try.prog.info? E.elem).map (·.size) = some cs.size := by
  obtain ⟨i, h1, _, h2, _⟩ := H.info
  rw [h1, Option.map_some, h2, hc]

/-- A value that is laid in cells, one each. -/
def Fits (E : El) (cs : Array Value) : Prop := cs.size = E.size ∧ cs.all (·.oneCell') = true

/-- An element that lies within a block, from a place on. -/
theorem El.Ok.load {E : El} (H : E.Ok) (w : World) (g off : Nat) (cur : Array Value) (t : TypeId) (fr : Nat × Nat) (cs : Array Value) (hcs : cs.size = E.size) (hg : w.heap[g]? = some (.cells cur t fr)) (hc : ∀ j, j < E.size → cur[off + j]? = cs[j]?) :
    (loadVar E.elem ⟨g, off, none⟩).run Try.prog w = .ok (.agg cs) w := by
  have hl : (loadCells ⟨g, off, none⟩ cs.toList.length).run Try.prog w = .ok cs.toList.toArray w :=
    run_loadCells_list (P := Try.prog) w ⟨g, off, none⟩ cs.toList (fun j v hv => by
      have hadd : (⟨g, off, none⟩ : Addr).add j = ⟨g, off + j, none⟩ := by unfold Addr.add; split <;> simp_all
      have hj : j < E.size := by
        have := (List.getElem?_eq_some_iff.1 hv).1
        rw [Array.length_toList] at this
        omega
      rw [hadd, cell_of_row w g (off + j) cur t fr hg, hc j hj]
      simpa using hv)
  obtain ⟨i, hq, _, hs, _⟩ := H.info
  have hagg : (isAgg E.elem).run Try.prog w = .ok true w := by
    obtain ⟨d, hd, hm⟩ := H.hu
    unfold isAgg
    rw [Sem.run_bind, run_underlying hd w]
    revert hm
    cases d <;> simp [go_sem]
  rw [Array.length_toList, hcs, Array.toArray_toList] at hl
  simp [loadVar, Sem.run_bind, hagg, sizeOf, typeInfo, hq, hs, hl]
theorem wl_loadE {E : El} (H : E.Ok) {ops : Array Oper} {rest : List Oper} {o : Oper} {a : Act} {w : World} {Q : Exit → Act → World → Prop} (hw : Region.wanted o (yielded ops a.tmps) = true) (x : Operand) (ho : o.op = .load E.elem x)
    (g off : Nat) (hx : a.eval x = .pointer (some ⟨g, off, none⟩)) (cur : Array Value) (t : TypeId) (fr : Nat × Nat) (cs : Array Value) (hcs : cs.size = E.size) (hg : w.heap[g]? = some (.cells cur t fr)) (hc : ∀ j, j < E.size → cur[off + j]? = cs[j]?)
    (h : wpList Try.prog ops Q rest (a.put o.dst (.agg cs)) w) : wpList Try.prog ops Q (o :: rest) a w := by
  refine wpList_step fun K hK => ?_
  rw [if_pos hw]
  unfold Oper.wp execOp
  simp only [ho, hx, Instr.loadAt, Instr.sureAddr, Sem.run_bind, Sem.run_pure, Result.andThen_ok, H.load w g off cur t fr cs hcs hg hc]
  exact hK _ _ h
theorem own_cells (n : Nat) (cs : Array Value) : ∀ j, j < n → cs[0 + j]? = cs[j]? := fun j _ => by rw [Nat.zero_add]
theorem wl_storeE {E : El} (H : E.Ok) {ops : Array Oper} {rest : List Oper} {o : Oper} {a : Act} {w : World} {Q : Exit → Act → World → Prop} (hgd : o.guard = none) (x y : Operand) (ho : o.op = .store E.elem x y)
    (g : Nat) (cs : Array Value) (hf : Fits E cs) (hx : a.eval x = .pointer (some ⟨g, 0, none⟩)) (hy : a.eval y = .agg cs) (old : Array Value) (hg : w.heap[g]? = some (.cells old E.elem (0, 0))) (hold : old.size = E.size)
    (w' : World) (hw' : w.setRow g cs = w')
    (h : wpList Try.prog ops Q rest (a.put o.dst undef) w') : wpList Try.prog ops Q (o :: rest) a w :=
  wpList_store_row hgd E.elem x y ho g cs hx hy E.elem old hg (H.cellsz cs hf.1) (by rw [hf.1, hold]) hf.2 (by rw [hw']; exact h)
/-- The cells of a list of elements. -/
def gcells {α : Type} (enc : α → Array Value) (C : List α) : List Value := C.flatMap fun c => (enc c).toList
theorem gcells_append {α : Type} (enc : α → Array Value) (C D : List α) : gcells enc (C ++ D) = gcells enc C ++ gcells enc D := by simp [gcells]
theorem gcells_one {α : Type} (enc : α → Array Value) (c : α) : gcells enc [c] = (enc c).toList := by simp [gcells]
theorem gcells_cons {α : Type} (enc : α → Array Value) (c : α) (C : List α) : gcells enc (c :: C) = (enc c).toList ++ gcells enc C := by simp [gcells]
theorem gcells_at {α : Type} (enc : α → Array Value) (n : Nat) : ∀ (C : List α), (∀ c ∈ C, (enc c).size = n) → ∀ (i : Nat) (hi : i < C.length) (j : Nat), j < n → (gcells enc C)[n * i + j]? = (enc C[i])[j]?
  | [], _, i, hi, _, _ => absurd hi (by simp)
  | c :: C, h, 0, _, j, hj => by
    have h1 := h c (by simp)
    rw [gcells_cons, Nat.mul_zero, Nat.zero_add, List.getElem?_append_left (by rw [Array.length_toList, h1]; exact hj)]
    simp
  | c :: C, h, i + 1, hi, j, hj => by
    have h1 := h c (by simp)
    have ih := gcells_at enc n C (fun d hd => h d (by simp [hd])) i (by simpa using hi) j hj
    rw [gcells_cons, show n * (i + 1) + j = n + (n * i + j) by rw [Nat.mul_add, Nat.mul_one]; omega, List.getElem?_append_right (by rw [Array.length_toList, h1]; omega), Array.length_toList, h1, Nat.add_sub_cancel_left]
    simpa using ih

theorem gfold_get (off : Nat) : ∀ (xs : List Value) (n : Nat) (cells : Array Value) (k : Nat), off + n + xs.length ≤ cells.size →
    ((xs.zipIdx n).foldl (fun cs (x : Value × Nat) => cs.setIfInBounds (off + x.2) x.1) cells)[k]? = if off + n ≤ k ∧ k < off + n + xs.length then xs[k - (off + n)]? else cells[k]?
  | [], n, cells, k, _ => by
    simp only [List.zipIdx_nil, List.foldl_nil, List.length_nil, Nat.add_zero]
    rw [if_neg (by omega)]
  | x :: xs, n, cells, k, h => by
    simp only [List.length_cons] at h
    rw [List.zipIdx_cons, List.foldl_cons, gfold_get off xs (n + 1) _ k (by simp; omega)]
    simp only [List.length_cons]
    by_cases h1 : off + (n + 1) ≤ k ∧ k < off + (n + 1) + xs.length
    · rw [if_pos h1, if_pos (by omega), show k - (off + n) = (k - (off + (n + 1))) + 1 by omega, List.getElem?_cons_succ]
    · rw [if_neg h1]
      by_cases h2 : k = off + n
      · subst h2
        rw [if_pos (by omega), Nat.sub_self, List.getElem?_cons_zero, Array.getElem?_setIfInBounds_self_of_lt (by omega)]
      · rw [if_neg (by omega), Array.getElem?_setIfInBounds_ne (by omega)]
theorem gfold_all (xs cells : Array Value) (h : xs.size = cells.size) : xs.zipIdx.foldl (fun cs (x : Value × Nat) => cs.setIfInBounds (0 + x.2) x.1) cells = xs := by
  have e : xs.zipIdx.foldl (fun cs (x : Value × Nat) => cs.setIfInBounds (0 + x.2) x.1) cells = (xs.toList.zipIdx 0).foldl (fun cs (x : Value × Nat) => cs.setIfInBounds (0 + x.2) x.1) cells := by
    rw [← Array.foldl_toList]; simp
  rw [e]
  apply Array.ext_getElem?
  intro k
  rw [gfold_get 0 xs.toList 0 cells k (by simp; omega)]
  by_cases hk : k < xs.size
  · rw [if_pos (by simp; omega)]; simp
  · rw [if_neg (by simp; omega), Array.getElem?_eq_none (by omega), Array.getElem?_eq_none (by omega)]

set_option maxRecDepth 20000 in
/-- A slice of one element. -/
theorem wl_buildE {E : El} (H : E.Ok) {ops : Array Oper} {rest : List Oper} {o : Oper} {a : Act} {w : World} {Q : Exit → Act → World → Prop} (hg : o.guard = none) (x : Operand) (ho : o.op = .buildSlice E.slice 1 #[(0, x)]) (cs : Array Value) (hcs : cs.size = E.size) (hx : a.eval x = .agg cs)
    (h : wpList Try.prog ops Q rest (a.put o.dst (.slice (some ⟨w.heap.size, 0, none⟩) 1 1)) (w.alloc (.cells cs E.elem))) : wpList Try.prog ops Q (o :: rest) a w := by
  obtain ⟨ie, hie, hz, hs, _⟩ := H.info
  refine wpList_buildSlice hg E.slice E.elem 1 _ ho cs ie (.agg E.zero) H.hs hie hz (by rw [hs]; have := H.hn; omega) (by rw [hs]; have := H.hp; omega) ?_ h
  simp only [List.map_toArray, List.map_cons, List.map_nil, hx, Instr.fill, hs, Nat.zero_mul, Value.cells, hcs]
  rw [if_neg (by simp)]
  congr 1
  exact gfold_all _ _ (by rw [hcs]; simp)

/-- One element appended to one's own row of them, and where the new row lies. -/
theorem wl_appendE {E : El} (H : E.Ok) {α : Type} (enc : α → Array Value) {ops : Array Oper} {rest : List Oper} {o : Oper} {a : Act} {w : World} {Q : Exit → Act → World → Prop} (hgd : o.guard = none) (s x : Operand) (ho : o.op = .call { callee := .builtin .append, args := #[s, x], argTypes := #[E.slice, E.slice] })
    (base : Nat) (v : Value) (C : List α) (c : α) (hf : Fits E (enc c)) (hs : a.eval s = v) (hown : w.ownsRow base E.elem E.size v C.length (gcells enc C)) (g cap : Nat) (hx : a.eval x = .slice (some ⟨g, 0, none⟩) 1 cap) (hg : w.heap[g]? = some (.cells (enc c) E.elem (0, 0)))
    (hn : C.length ≤ 1000000) (hbase : base ≤ w.heap.size)
    (h : ∀ v' w', w'.ownsRow base E.elem E.size v' (C ++ [c]).length (gcells enc (C ++ [c])) → w.grownBy w' v.ownBlock → (v'.ownBlock = v.ownBlock ∨ v'.ownBlock = some w.heap.size) → wpList Try.prog ops Q rest (a.put o.dst v') w') : wpList Try.prog ops Q (o :: rest) a w := by
  obtain ⟨i0, hi, hz0, hz1, hz2⟩ := H.info
  have hb := H.hb
  refine wpList_append_own_at _ hgd s x E.slice ho base E.elem i0 (.agg E.zero) E.size E.bytes H.hs hi hz0 hz1 hz2 (by simpa [Value.cells] using H.hz) H.hp v _ _ hs hown ⟨g, 0, none⟩ 1 cap (enc c).toList hx (by rw [Array.length_toList, hf.1, Nat.one_mul]) (fun j y hy => ?_) (fun u hu => ?_) (by unfold maxLen; omega) ?_ hbase ?_
  · have hadd : (⟨g, 0, none⟩ : Addr).add j = ⟨g, j, none⟩ := by unfold Addr.add; split <;> simp_all
    rw [hadd, cell_of_row w g j _ _ _ hg, ← hy]
    simp
  · exact (Array.all_eq_true_iff_forall_mem.1 hf.2) u (by simpa using hu)
  · exact Nat.le_trans (Nat.mul_le_mul (show C.length + 1 ≤ 1000001 by omega) hb) (by decide)
  · intro v' w' h5 h6 _ h7
    refine h v' w' ?_ h6 h7
    rw [List.length_append, gcells_append, gcells_one]; exact h5

/-- A slice, wherever it lies, whose elements are these. -/
def GSl {α : Type} (E : El) (enc : α → Array Value) (w : World) (v : Value) (C : List α) : Prop :=
  ∃ (o : Option Addr) (cap : Nat), v = .slice o C.length cap ∧ C.length ≤ cap ∧ cap ≤ maxLen ∧ ∀ (i : Nat) (hi : i < C.length), ∃ g off cur t fr, o = some ⟨g, off, none⟩ ∧ w.heap[g]? = some (.cells cur t fr) ∧ ∀ j, j < E.size → cur[off + i * E.size + j]? = (enc C[i])[j]?
theorem GSl.below {α : Type} {E : El} {enc : α → Array Value} {w w' : World} {v : Value} {C : List α} (h : GSl E enc w v C) (hb : Below w.heap.size w w') : GSl E enc w' v C := by
  obtain ⟨o, cap, rfl, h1, h2, h3⟩ := h
  refine ⟨o, cap, rfl, h1, h2, fun i hi => ?_⟩
  obtain ⟨g, off, cur, t, fr, h4, h5, h6⟩ := h3 i hi
  exact ⟨g, off, cur, t, fr, h4, (hb.block g (Array.getElem?_eq_some_iff.1 h5).1).trans h5, h6⟩
theorem GSl.slice {α : Type} {E : El} {enc : α → Array Value} {w : World} {v : Value} {C : List α} (h : GSl E enc w v C) : ∃ (o : Option Addr) (cap : Nat), v = .slice o C.length cap ∧ C.length ≤ cap ∧ cap ≤ maxLen := by
  obtain ⟨o, cap, h1, h2, h3, _⟩ := h
  exact ⟨o, cap, h1, h2, h3⟩
theorem GSl.at {α : Type} {E : El} {enc : α → Array Value} {w : World} {o : Option Addr} {n cap : Nat} {C : List α} (h : GSl E enc w (.slice o n cap) C) (k : Nat) (hk : k < n) :
    ∃ g off cur t fr, ∃ c : α, o = some ⟨g, off, none⟩ ∧ w.heap[g]? = some (.cells cur t fr) ∧ (∀ j, j < E.size → cur[off + k * E.size + j]? = (enc c)[j]?) ∧ C[k]? = some c := by
  obtain ⟨o', cap', h1, _, _, h3⟩ := h
  simp only [Value.slice.injEq] at h1
  obtain ⟨rfl, rfl, rfl⟩ := h1
  obtain ⟨g, off, cur, t, fr, h4, h5, h6⟩ := h3 k hk
  exact ⟨g, off, cur, t, fr, C[k], h4, h5, h6, List.getElem?_eq_getElem hk⟩
theorem gsl_of {α : Type} {E : El} {enc : α → Array Value} {w : World} {B : Nat} {v : Value} {C : List α} (h : w.ownsRow B E.elem E.size v C.length (gcells enc C)) (hC : ∀ c ∈ C, (enc c).size = E.size) : GSl E enc w v C := by
  obtain ⟨h1, ⟨rfl, h2⟩ | ⟨g, cap, cur, rfl, hB, hcur, h5, h6, _, h4⟩⟩ := h
  · exact ⟨none, 0, by rw [h2], by omega, Nat.zero_le _, fun i hi => by omega⟩
  · refine ⟨_, cap, rfl, h5, h6, fun i hi => ⟨g, 0, cur, _, _, rfl, hcur, fun j hj => ?_⟩⟩
    have hlt : E.size * i + j < C.length * E.size := by
      have : E.size * (i + 1) ≤ E.size * C.length := Nat.mul_le_mul_left _ hi
      rw [Nat.mul_add, Nat.mul_one] at this
      rw [Nat.mul_comm C.length]
      omega
    rw [← gcells_at enc E.size C hC i hi j hj, ← h4, List.getElem?_take_of_lt hlt, Nat.zero_add, Nat.mul_comm]
    simp
theorem gsl_nil {α : Type} (E : El) (enc : α → Array Value) (w : World) : GSl E enc w (.slice none 0 0) [] := ⟨none, 0, rfl, Nat.le_refl _, Nat.zero_le _, fun i hi => absurd hi (by simp)⟩
theorem gown_slice {w : World} {B : Nat} {e : TypeId} {s : Nat} {v : Value} {n : Nat} {xs : List Value} (h : w.ownsRow B e s v n xs) : ∃ o cap, v = .slice o n cap := by
  obtain ⟨_, ⟨rfl, rfl⟩ | ⟨g, cap, cur, rfl, _⟩⟩ := h
  · exact ⟨none, 0, rfl⟩
  · exact ⟨_, cap, rfl⟩
theorem gown_below {w w' : World} {B : Nat} {e : TypeId} {s : Nat} {v : Value} {n : Nat} {xs : List Value} (h : w.ownsRow B e s v n xs) (hb : Below w.heap.size w w') : w'.ownsRow B e s v n xs := by
  obtain ⟨h1, h2 | ⟨g, cap, cur, rfl, hB, hcur, h3⟩⟩ := h
  · exact ⟨h1, .inl h2⟩
  · exact ⟨h1, .inr ⟨g, cap, cur, rfl, hB, (hb.block g (Array.getElem?_eq_some_iff.1 hcur).1).trans hcur, h3⟩⟩
theorem gown_base {w : World} {B B' : Nat} {e : TypeId} {s : Nat} {v : Value} {n : Nat} {xs : List Value} (h : w.ownsRow B e s v n xs) (hB' : B' ≤ B) : w.ownsRow B' e s v n xs := by
  obtain ⟨h1, h2 | ⟨g', cap, cur, rfl, hB, h3⟩⟩ := h
  · exact ⟨h1, .inl h2⟩
  · exact ⟨h1, .inr ⟨g', cap, cur, rfl, by omega, h3⟩⟩
end Go.Proofs.Yteongcihannldaa
namespace Go.Proofs.Yteongcihannldaa
open Go Go.RowKit
set_option maxRecDepth 20000

/-- All blocks but these are as they were. -/
structure Kept (X : Nat → Prop) (w w' : World) : Prop where
  os : w'.os = w.os
  tape : w'.tape = w.tape
  output : w'.output = w.output
  size : w.heap.size ≤ w'.heap.size
  block : ∀ k, k < w.heap.size → ¬ X k → w'.heap[k]? = w.heap[k]?
theorem Kept.refl (X : Nat → Prop) (w : World) : Kept X w w := ⟨rfl, rfl, rfl, Nat.le_refl _, fun _ _ _ => rfl⟩
theorem Kept.of_below {X : Nat → Prop} {w w' : World} (h : Below w.heap.size w w') : Kept X w w' := ⟨h.os, h.tape, h.output, h.size, fun k hk _ => h.block k hk⟩
theorem Kept.of_grown {X : Nat → Prop} {w w' : World} {row : Option Nat} (h : w.grownBy w' row) (hr : ∀ k, row = some k → X k) : Kept X w w' :=
  ⟨h.os, h.tape, h.output, h.size, fun k hk hX => h.block k hk fun e => hX (hr k e.symm)⟩
theorem Kept.trans {X Y : Nat → Prop} {w w1 w2 : World} (h : Kept X w w1) (h' : Kept Y w1 w2) (hY : ∀ k, Y k → X k ∨ w.heap.size ≤ k) : Kept X w w2 :=
  ⟨h'.os.trans h.os, h'.tape.trans h.tape, h'.output.trans h.output, Nat.le_trans h.size h'.size, fun k hk hX => by
    rw [h'.block k (Nat.lt_of_lt_of_le hk h.size) (fun hy => by rcases hY k hy with e | e; exact hX e; omega)]
    exact h.block k hk hX⟩
theorem Kept.mono {X Y : Nat → Prop} {w w' : World} (h : Kept X w w') (hXY : ∀ k, k < w.heap.size → X k → Y k) : Kept Y w w' := ⟨h.os, h.tape, h.output, h.size, fun k hk hY => h.block k hk fun hX => hY (hXY k hk hX)⟩
theorem Kept.below {X : Nat → Prop} {w w' : World} {B : Nat} (h : Kept X w w') (hX : ∀ k, X k → B ≤ k) (hB : B ≤ w.heap.size) : Below B w w' :=
  ⟨h.os, h.tape, h.output, h.size, fun k hk => h.block k (by omega) fun hx => by have := hX k hx; omega⟩
theorem Kept.add {X : Nat → Prop} {w w1 w2 : World} (h : Kept X w w1) (h' : Below w1.heap.size w1 w2) : Kept X w w2 := h.trans (Y := fun _ => False) (Kept.of_below h') fun _ h => h.elim
theorem Kept.pre {X : Nat → Prop} {w w1 w2 : World} (h : Below w.heap.size w w1) (h' : Kept X w1 w2) : Kept X w w2 := (Kept.of_below (X := X) h).trans h' fun _ hk => .inl hk
theorem Kept.heap {X : Nat → Prop} {w w' : World} {k : Nat} {o : Obj} (h : Kept X w w') (hk : w.heap[k]? = some o) (hX : ¬ X k) : w'.heap[k]? = some o := (h.block k (Array.getElem?_eq_some_iff.1 hk).1 hX).trans hk
theorem Kept.own {X : Nat → Prop} {w w' : World} (h : Kept X w w') {B : Nat} {e : TypeId} {s : Nat} {v : Value} {n : Nat} {xs : List Value} (ho : w.ownsRow B e s v n xs) (hX : ∀ k, v.ownBlock = some k → ¬ X k) : w'.ownsRow B e s v n xs := by
  obtain ⟨h1, h2 | ⟨g, cap, cur, rfl, hB, hcur, h3⟩⟩ := ho
  · exact ⟨h1, .inl h2⟩
  · exact ⟨h1, .inr ⟨g, cap, cur, rfl, hB, h.heap hcur (hX g rfl), h3⟩⟩

/-- Two rows lie apart. -/
def ApartR (a b : Option Nat) : Prop := a = none ∨ b = none ∨ a ≠ b
theorem ApartR.symm {a b : Option Nat} (h : ApartR a b) : ApartR b a := by
  rcases h with h | h | h
  · exact .inr (.inl h)
  · exact .inl h
  · exact .inr (.inr fun e => h e.symm)
theorem ApartR.ne {a b : Option Nat} (h : ApartR a b) : ∀ k, a = some k → b ≠ some k := by
  intro k ha hb
  subst ha
  subst hb
  rcases h with h | h | h
  · cases h
  · cases h
  · exact h rfl
theorem below_step {B : Nat} {w wr w' : World} (hb : Below B w wr) (hB : B ≤ wr.heap.size) (h : Below wr.heap.size wr w') : Below B w w' := hb.trans (h.mono hB)
def isB (g : Nat) (k : Nat) : Prop := k = g
def rowX (v : Value) (k : Nat) : Prop := v.ownBlock = some k
end Go.Proofs.Yteongcihannldaa
namespace Go.Proofs.Yteongcihannldaa
open Go Go.RowKit
set_option maxRecDepth 20000

/-! What a call on a state that lies in certain blocks (its foot) leaves. -/
structure Frm (F F' : Nat → Prop) (w w' : World) : Prop where
  kept : Kept F w w'
  foot : ∀ k, F' k → F k ∨ w.heap.size ≤ k
theorem Frm.of_below {F : Nat → Prop} {w w' : World} (h : Below w.heap.size w w') : Frm F F w w' := ⟨Kept.of_below h, fun _ e => .inl e⟩
theorem Frm.refl (F : Nat → Prop) (w : World) : Frm F F w w := ⟨Kept.refl _ _, fun _ e => .inl e⟩
theorem Frm.trans {F F1 F2 : Nat → Prop} {w w1 w2 : World} (h : Frm F F1 w w1) (h' : Frm F1 F2 w1 w2) : Frm F F2 w w2 :=
  ⟨h.kept.trans h'.kept h.foot, fun k e => by
    rcases h'.foot k e with e | e
    · exact h.foot k e
    · exact .inr (Nat.le_trans h.kept.size e)⟩
theorem Frm.add {F F' : Nat → Prop} {w w1 w2 : World} (h : Frm F F' w w1) (hb : Below w1.heap.size w1 w2) : Frm F F' w w2 := h.trans (Frm.of_below hb)
theorem Frm.pre {F F' : Nat → Prop} {w w1 w2 : World} (hb : Below w.heap.size w w1) (h : Frm F F' w1 w2) : Frm F F' w w2 := (Frm.of_below hb).trans h
theorem Frm.apart {F F' G : Nat → Prop} {w w' : World} (h : Frm F F' w w') (hG : ∀ k, G k → k < w.heap.size) (ha : ∀ k, F k → ¬ G k) : ∀ k, F' k → ¬ G k := fun k e e' => by
  rcases h.foot k e with e1 | e1
  · exact ha k e1 e'
  · have := hG k e'; omega
/-- Blocks outside the foot stay. -/
theorem Frm.heap {F F' : Nat → Prop} {w w' : World} (h : Frm F F' w w') {k : Nat} {o : Obj} (hk : w.heap[k]? = some o) (hF : ¬ F k) : w'.heap[k]? = some o := h.kept.heap hk hF
/-- Worlds in which a block stays. -/
structure KeepB (p : Nat) (ob : Obj) where
  world : World
  k1 : world.heap[p]? = some ob
abbrev InB (p : Nat) (ob : Obj) (w : World) : Prop := ∃ z : KeepB p ob, w = z.world
theorem InB.of {w : World} {p : Nat} {ob : Obj} (h : w.heap[p]? = some ob) : InB p ob w := ⟨⟨w, h⟩, rfl⟩
end Go.Proofs.Yteongcihannldaa
namespace Go.Proofs.Yteongcihannldaa
open Go
set_option maxRecDepth 20000

/-! What is known of switches (layer 21): its mathematics. -/
structure SwM where
  life : Int
  heard : Int
  use : Int
  have_ : Int → Int
  led : Int → Option Int
def sw0 : SwM := ⟨0, 0, 0, fun _ => 0, fun _ => none⟩
structure RollM where
  count : Int
  sw : Int → SwM
def clockR (now : Int) : Int := min (max now 0) 1099511627776
def isRl (r : RollM) (s : Int) : Bool := decide (1 ≤ s) && decide (s ≤ r.count)
def setR (r : RollM) (s : Int) (x : SwM) : RollM := { r with sw := fun k => if k = s then x else r.sw k }
theorem set_at (r : RollM) (s : Int) (x : SwM) : (setR r s x).sw s = x := if_pos rfl
theorem set_other (r : RollM) (s : Int) (x : SwM) {k : Int} (h : k ≠ s) : (setR r s x).sw k = r.sw k := if_neg h
def hearS (x : SwM) (inc now : Int) : SwM := { (if x.life < inc then { sw0 with life := inc } else x) with heard := clockR now }
def hearR (r : RollM) (s inc now : Int) : RollM × Bool := if isRl r s = true ∧ 1 ≤ inc ∧ (r.sw s).life ≤ inc then (setR r s (hearS (r.sw s) inc now), true) else (r, false)
def livesR (r : RollM) (s inc : Int) : Bool := isRl r s && (inc != 0) && ((r.sw s).life == inc)
def ackS (x : SwM) (e n : Int) : SwM := { x with have_ := fun k => if k = e then max (x.have_ e) n else x.have_ k }
def ackR (r : RollM) (s inc e n : Int) : RollM × Bool := if livesR r s inc = true then (setR r s (ackS (r.sw s) e n), true) else (r, false)
def seenS (x : SwM) (n : Int) : SwM := { x with use := max x.use n }
def seenR (r : RollM) (s inc n : Int) : RollM × Bool := if livesR r s inc = true then (setR r s (seenS (r.sw s) n), true) else (r, false)
def laterO (o : Option Int) (t : Int) : Option Int := match o with | some u => some (max u t) | none => some t
def ledS (x : SwM) (e now : Int) : SwM := { x with led := fun k => if k = e then laterO (x.led e) (clockR now) else x.led k }
def ledR (r : RollM) (s e now : Int) : RollM := if isRl r s = true then setR r s (ledS (r.sw s) e now) else r
def keepS (x : SwM) (a b : Int) : SwM := { x with have_ := fun k => if k = a ∨ k = b then x.have_ k else 0 }
def keepR (r : RollM) (a b : Int) : RollM := { r with sw := fun k => keepS (r.sw k) a b }
def incR (r : RollM) (s : Int) : Int := if isRl r s = true then (r.sw s).life else 0
def inR (r : RollM) (s now lost : Int) : Bool := isRl r s && ((r.sw s).life != 0) && decide (clockR now - (r.sw s).heard < lost)
def haveR (r : RollM) (s e : Int) : Int := if isRl r s = true then (r.sw s).have_ e else 0
def useR (r : RollM) (s : Int) : Int := if isRl r s = true then (r.sw s).use else 0
/-- Told to use a lesser epoch so lately that it may still be used. -/
def youngS (x : SwM) (epoch now lease : Int) : Prop := ∃ e t, e < epoch ∧ x.led e = some t ∧ clockR now - t < lease
def SafeS (x : SwM) (epoch now lease : Int) : Prop := epoch ≤ x.use ∨ ¬ youngS x epoch now lease
/-- What holds whatever is said. -/
structure SwOk (x : SwM) : Prop where
  life0 : 0 ≤ x.life
  use0 : 0 ≤ x.use
  have0 : ∀ e, 0 ≤ x.have_ e
  led0 : ∀ e t, x.led e = some t → 0 ≤ t ∧ t ≤ 1099511627776
theorem clock_in (now : Int) : 0 ≤ clockR now ∧ clockR now ≤ 1099511627776 := by unfold clockR; omega
theorem sw0_ok : SwOk sw0 := ⟨Int.le_refl _, Int.le_refl _, fun _ => Int.le_refl _, fun e t h => by cases h⟩
theorem hearS_ok {x : SwM} (h : SwOk x) {inc : Int} (hi : 1 ≤ inc) (now : Int) : SwOk (hearS x inc now) := by
  unfold hearS
  split
  · exact ⟨(by show 0 ≤ inc; omega), Int.le_refl _, fun _ => Int.le_refl _, fun e t h => by cases h⟩
  · exact ⟨h.life0, h.use0, h.have0, h.led0⟩
theorem ackS_ok {x : SwM} (h : SwOk x) (e n : Int) : SwOk (ackS x e n) := ⟨h.life0, h.use0, fun k => by
  unfold ackS
  dsimp only
  have := h.have0 e
  split
  · omega
  · exact h.have0 k, h.led0⟩
theorem seenS_ok {x : SwM} (h : SwOk x) (n : Int) : SwOk (seenS x n) := ⟨h.life0, (by have := h.use0; unfold seenS; dsimp only; omega), h.have0, h.led0⟩
theorem ledS_ok {x : SwM} (h : SwOk x) (e now : Int) : SwOk (ledS x e now) := ⟨h.life0, h.use0, h.have0, fun k t hk => by
  unfold ledS at hk
  dsimp only at hk
  have hc := clock_in now
  split at hk
  · unfold laterO at hk
    cases he : x.led e with
    | none => rw [he] at hk; obtain rfl := Option.some.inj hk; exact hc
    | some u =>
      rw [he] at hk
      obtain rfl := Option.some.inj hk
      have := h.led0 e u he
      omega
  · exact h.led0 k t hk⟩
theorem keepS_ok {x : SwM} (h : SwOk x) (a b : Int) : SwOk (keepS x a b) := ⟨h.life0, h.use0, fun k => by
  unfold keepS
  dsimp only
  split
  · exact h.have0 k
  · exact Int.le_refl _, h.led0⟩
/-- RollSafe: who is told, from then on. -/
theorem young_led {x : SwM} {e now epoch qn lease : Int} : youngS (ledS x e now) epoch qn lease ↔ youngS x epoch qn lease ∨ (e < epoch ∧ clockR qn - clockR now < lease) := by
  unfold youngS ledS
  dsimp only
  constructor
  · rintro ⟨k, t, hk, ht, hl⟩
    by_cases hke : k = e
    · subst hke
      rw [if_pos rfl] at ht
      unfold laterO at ht
      cases he : x.led k with
      | none =>
        rw [he] at ht
        obtain rfl := Option.some.inj ht
        exact .inr ⟨hk, hl⟩
      | some u =>
        rw [he] at ht
        obtain rfl := Option.some.inj ht
        by_cases hm : u ≤ clockR now
        · exact .inr ⟨hk, by omega⟩
        · exact .inl ⟨k, u, hk, he, by omega⟩
    · rw [if_neg hke] at ht
      exact .inl ⟨k, t, hk, ht, hl⟩
  · rintro (⟨k, t, hk, ht, hl⟩ | ⟨hk, hl⟩)
    · by_cases hke : k = e
      · subst hke
        refine ⟨k, max t (clockR now), hk, ?_, by omega⟩
        rw [if_pos rfl, ht]; rfl
      · exact ⟨k, t, hk, by rw [if_neg hke]; exact ht, hl⟩
    · cases he : x.led e with
      | none => exact ⟨e, clockR now, hk, by rw [if_pos rfl]; rfl, hl⟩
      | some u => exact ⟨e, max u (clockR now), hk, by rw [if_pos rfl]; rfl, by omega⟩
theorem young_sw0 (epoch qn lease : Int) (i : Int) (h : Int) : ¬ youngS { sw0 with life := i, heard := h } epoch qn lease := by
  rintro ⟨e, t, _, ht, _⟩
  cases ht
theorem young_hear {x : SwM} {inc now epoch qn lease : Int} : youngS (hearS x inc now) epoch qn lease ↔ (¬ x.life < inc ∧ youngS x epoch qn lease) := by
  unfold hearS
  by_cases h : x.life < inc
  · rw [if_pos h]
    exact ⟨fun hy => absurd hy (young_sw0 epoch qn lease inc (clockR now)), fun hy => absurd h hy.1⟩
  · rw [if_neg h]
    exact ⟨fun hy => ⟨h, hy⟩, fun hy => hy.2⟩
theorem use_hear {x : SwM} {inc now : Int} : (hearS x inc now).use = if x.life < inc then 0 else x.use := by
  unfold hearS
  split <;> rfl
theorem life_hear {x : SwM} {inc now : Int} (h : x.life ≤ inc) : (hearS x inc now).life = inc := by
  unfold hearS
  split
  · rfl
  · show x.life = inc
    omega
/-- RollLives: a life never goes back; another switch stays. -/
theorem hear_life (r : RollM) (s inc now k : Int) : (r.sw k).life ≤ ((hearR r s inc now).1.sw k).life := by
  unfold hearR
  split
  · rename_i h
    by_cases e : k = s
    · subst e
      rw [set_at, life_hear h.2.2]
      exact h.2.2
    · rw [set_other r s _ e]
      exact Int.le_refl _
  · exact Int.le_refl _
theorem hear_other (r : RollM) (s inc now : Int) {k : Int} (h : k ≠ s) : (hearR r s inc now).1.sw k = r.sw k := by
  unfold hearR
  split
  · exact set_other r s _ h
  · rfl
theorem ack_other (r : RollM) (s inc e n : Int) {k : Int} (h : k ≠ s) : (ackR r s inc e n).1.sw k = r.sw k := by
  unfold ackR
  split
  · exact set_other r s _ h
  · rfl
theorem seen_other (r : RollM) (s inc n : Int) {k : Int} (h : k ≠ s) : (seenR r s inc n).1.sw k = r.sw k := by
  unfold seenR
  split
  · exact set_other r s _ h
  · rfl
theorem led_other (r : RollM) (s e now : Int) {k : Int} (h : k ≠ s) : (ledR r s e now).sw k = r.sw k := by
  unfold ledR
  split
  · exact set_other r s _ h
  · rfl
theorem ack_life (r : RollM) (s inc e n k : Int) : ((ackR r s inc e n).1.sw k).life = (r.sw k).life := by
  unfold ackR
  split
  · by_cases h : k = s
    · subst h; rw [set_at]; rfl
    · rw [set_other r s _ h]
  · rfl
theorem seen_life (r : RollM) (s inc n k : Int) : ((seenR r s inc n).1.sw k).life = (r.sw k).life := by
  unfold seenR
  split
  · by_cases h : k = s
    · subst h; rw [set_at]; rfl
    · rw [set_other r s _ h]
  · rfl
theorem lives_no {r : RollM} {s inc : Int} (h : inc ≠ (r.sw s).life) : livesR r s inc = false := by
  unfold livesR
  cases e : ((r.sw s).life == inc) with
  | false => simp
  | true => exact absurd (beq_iff_eq.1 e).symm h
end Go.Proofs.Yteongcihannldaa
namespace Go.Proofs.Yteongcihannldaa
open Go Go.RowKit
set_option maxRecDepth 20000

/-! A map from numbers to numbers, in memory. -/
theorem law3 : Maps.Keyed Try.prog 3 := Maps.int_keyed Try.underlying3
theorem zero3 (w : World) : (zeroValue 3).run Try.prog w = .ok (.int .i64 0) w := by kernel_rfl
def WfI (k : Int) : Prop := (Lit.int .i64 k).wf = true
structure MapS (D : DataW Unit) (f : Int → Option Int) : Prop where
  has : ∀ k, WfI k → Maps.has D (.int .i64 k) = (f k).isSome
  at_ : ∀ k x, WfI k → f k = some x → ∀ z, D.atKey (.int .i64 k) z = .lit (.int .i64 x)
def putO (f : Int → Option Int) (k x : Int) : Int → Option Int := fun j => if j = k then some x else f j
def delO (f : Int → Option Int) (k : Int) : Int → Option Int := fun j => if j = k then none else f j
theorem ne_key {j k : Int} (h : j ≠ k) : (Lit.int .i64 j) ≠ (Lit.int .i64 k) := fun e => h (by injection e)
theorem MapS.empty : MapS (.map []) (fun _ => none) := ⟨fun _ _ => rfl, fun _ _ _ h => by cases h⟩
theorem MapS.put {D : DataW Unit} {f : Int → Option Int} (h : MapS D f) (hD : Maps.IsMap D) (k x : Int) : MapS (D.put (.int .i64 k) (.lit (.int .i64 x))) (putO f k x) := by
  refine ⟨fun j hj => ?_, fun j y hj hy z => ?_⟩
  · unfold putO
    by_cases e : j = k
    · subst e
      rw [if_pos rfl, Maps.has_put_same (k := .int .i64 j) hD trivial]; rfl
    · rw [if_neg e, Maps.has_put_other (ne_key e)]
      exact h.has j hj
  · unfold putO at hy
    by_cases e : j = k
    · subst e
      rw [if_pos rfl] at hy
      obtain rfl := Option.some.inj hy
      exact Maps.atKey_put_same (k := .int .i64 j) hD trivial _ z
    · rw [if_neg e] at hy
      rw [Maps.atKey_put_other (ne_key e)]
      exact h.at_ j y hj hy z
theorem MapS.del {D : DataW Unit} {f : Int → Option Int} (h : MapS D f) (k : Int) : MapS (D.del (.int .i64 k)) (delO f k) := by
  refine ⟨fun j hj => ?_, fun j y hj hy z => ?_⟩
  · unfold delO
    by_cases e : j = k
    · subst e
      rw [if_pos rfl, Maps.has_del_same]; rfl
    · rw [if_neg e, Maps.has_del_other (ne_key e)]
      exact h.has j hj
  · unfold delO at hy
    by_cases e : j = k
    · subst e
      rw [if_pos rfl] at hy
      cases hy
    · rw [if_neg e] at hy
      rw [Maps.atKey_del_other (ne_key e)]
      exact h.at_ j y hj hy z
theorem MapS.get {D : DataW Unit} {f : Int → Option Int} (h : MapS D f) {k : Int} (hk : WfI k) : D.atKey (.int .i64 k) (.lit (.int .i64 0)) = .lit (.int .i64 ((f k).getD 0)) := by
  cases e : f k with
  | none => exact Maps.atKey_of_not_has (by rw [h.has k hk, e]; rfl) _
  | some x => exact h.at_ k x hk e _
theorem MapS.congr {D : DataW Unit} {f f' : Int → Option Int} (h : MapS D f) (e : ∀ k, WfI k → f k = f' k) : MapS D f' := ⟨fun k hk => by rw [← e k hk]; exact h.has k hk, fun k x hk hx z => h.at_ k x hk (by rw [e k hk]; exact hx) z⟩
def MapV (w : World) (b n : Nat) (f : Int → Option Int) : Prop := ∃ D : DataW Unit, w.ownsMap Try.prog 3 (plainElem Try.prog 3) b n D ∧ MapS D f
theorem MapV.made (w : World) : MapV (w.alloc (.map #[] 0)) w.heap.size 0 (fun _ => none) := ⟨_, World.ownsMap_made _ _ _ _, MapS.empty⟩
theorem MapV.mono {w : World} {b n n' : Nat} {f : Int → Option Int} (h : MapV w b n f) (hn : n ≤ n') : MapV w b n' f := by
  obtain ⟨D, h1, h2⟩ := h
  exact ⟨D, h1.mono hn, h2⟩
theorem MapV.lt {w : World} {b n : Nat} {f : Int → Option Int} (h : MapV w b n f) : b < w.heap.size := by
  obtain ⟨D, h1, h2⟩ := h
  exact h1.lt
theorem MapV.kind {w : World} {b n : Nat} {f : Int → Option Int} (h : MapV w b n f) : ∃ es c, w.heap[b]? = some (.map es c) := by
  obtain ⟨D, ⟨es, c, h1, _⟩, h2⟩ := h
  exact ⟨es, c, h1⟩
theorem MapV.same {w w' : World} {b n : Nat} {f : Int → Option Int} (h : MapV w b n f) (e : w'.heap[b]? = w.heap[b]?) : MapV w' b n f := by
  obtain ⟨D, ⟨es, c, h1, r⟩, h2⟩ := h
  exact ⟨D, ⟨es, c, e.trans h1, r⟩, h2⟩
theorem MapV.kept {X : Nat → Prop} {w w' : World} {b n : Nat} {f : Int → Option Int} (h : MapV w b n f) (hk : Kept X w w') (hX : ¬ X b) : MapV w' b n f := h.same (hk.block b h.lt hX)
theorem MapV.congr {w : World} {b n : Nat} {f f' : Int → Option Int} (h : MapV w b n f) (e : ∀ k, WfI k → f k = f' k) : MapV w b n f' := by
  obtain ⟨D, h1, h2⟩ := h
  exact ⟨D, h1, h2.congr e⟩
/-- A map's block is no row. -/
theorem MapV.ne {w : World} {b n : Nat} {f : Int → Option Int} (h : MapV w b n f) {g : Nat} {cs : Array Value} {t : TypeId} {fr : Nat × Nat} (hg : w.heap[g]? = some (.cells cs t fr)) : b ≠ g := fun e => by
  subst e
  obtain ⟨es, c, h1⟩ := h.kind
  rw [hg] at h1
  cases h1
theorem MapV.row {w : World} {b n : Nat} {f : Int → Option Int} (h : MapV w b n f) {B : Nat} {e : TypeId} {s : Nat} {v : Value} {m : Nat} {xs : List Value} (hr : w.ownsRow B e s v m xs) : v.ownBlock ≠ some b := fun q => by
  obtain ⟨_, ⟨rfl, _⟩ | ⟨g', cap, cur, rfl, _, h1, _⟩⟩ := hr
  · cases q
  · simp only [Value.ownBlock, Option.some.injEq] at q
    exact h.ne h1 q.symm

/-! At the operations. -/
theorem wl_mapGet {ops : Array Oper} {rest : List Oper} {o : Oper} {a : Act} {w : World} {Q : Exit → Act → World → Prop} (hg : o.guard = none) (m x : Operand) (ho : o.op = .lookup 49 m x false)
    (b n : Nat) (f : Int → Option Int) (k : Int) (hm : a.eval m = .map (some b)) (hx : a.eval x = .int .i64 k) (hv : MapV w b n f) (hk : WfI k)
    (h : wpList Try.prog ops Q rest (a.put o.dst (.int .i64 ((f k).getD 0))) w) : wpList Try.prog ops Q (o :: rest) a w := by
  obtain ⟨D, h1, h2⟩ := hv
  refine wpList_lookup_own_int w hg m x _ ho 3 3 .i64 law3 Try.underlying49 Try.underlying3 (zero3 _) b n D hm h1 _ (.int .i64 k) hx (Maps.keyOf_int_mk Try.underlying3 hk) ?_
  intro c hat _
  rw [h2.get hk] at hat
  injection hat with hat
  injection hat with _ hat
  subst hat
  exact h
theorem wl_mapGetOk {ops : Array Oper} {rest : List Oper} {o : Oper} {a : Act} {w : World} {Q : Exit → Act → World → Prop} (hg : o.guard = none) (m x : Operand) (ho : o.op = .lookup 49 m x true)
    (b n : Nat) (f : Int → Option Int) (k : Int) (hm : a.eval m = .map (some b)) (hx : a.eval x = .int .i64 k) (hv : MapV w b n f) (hk : WfI k)
    (h : wpList Try.prog ops Q rest (a.put o.dst (.tuple #[.int .i64 ((f k).getD 0), .bool (f k).isSome])) w) : wpList Try.prog ops Q (o :: rest) a w := by
  obtain ⟨D, h1, h2⟩ := hv
  refine wpList_lookup_own_ok_int w hg m x _ ho 3 3 .i64 law3 Try.underlying49 Try.underlying3 (zero3 _) b n D hm h1 _ (.int .i64 k) hx (Maps.keyOf_int_mk Try.underlying3 hk) ?_
  intro c hat _
  rw [h2.get hk] at hat
  injection hat with hat
  injection hat with _ hat
  subst hat
  rw [h2.has k hk]
  exact h
theorem wl_mapPut {ops : Array Oper} {rest : List Oper} {o : Oper} {a : Act} {w : World} {Q : Exit → Act → World → Prop} (hg : o.guard = none) (m x v : Operand) (ho : o.op = .mapUpdate 49 m x v)
    (b n : Nat) (f : Int → Option Int) (k c : Int) (hm : a.eval m = .map (some b)) (hx : a.eval x = .int .i64 k) (hy : a.eval v = .int .i64 c) (hv : MapV w b n f) (hk : WfI k) (hc : WfI c) (hn : n < maxLen)
    (h : ∀ w', MapV w' b (n + 1) (putO f k c) → w.grownBy w' (some b) → wpList Try.prog ops Q rest (a.put o.dst undef) w') : wpList Try.prog ops Q (o :: rest) a w := by
  obtain ⟨D, h1, h2⟩ := hv
  refine wpList_mapUpdate_own w hg m x v _ ho 3 3 law3 Try.underlying49 (plainElem Try.prog 3) b n D hm h1 hn _ _ (.int .i64 k) hx hy (Maps.keyOf_int_mk Try.underlying3 hk) _ [] (plainElem_int Try.underlying3 hc) ?_
  intro w' h3 h4
  exact h w' ⟨_, h3, h2.put (by obtain ⟨es, cl, _, _, _, rfl⟩ := h1; exact ⟨_, rfl⟩) k c⟩ h4
end Go.Proofs.Yteongcihannldaa
