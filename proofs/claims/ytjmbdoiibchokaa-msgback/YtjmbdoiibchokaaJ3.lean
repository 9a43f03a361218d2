import Derived.Test.YtjmbdoiibchokaaJ1
import Derived.Great.BuildSlice
import Derived.Laws.AppendOwn
import Derived.Laws.OwnMore
import Derived.Maps.AppendAt
import Derived.Laws.CopyRow
import Derived.Test.YtjmbdoiibchokaaJ2
import Derived.Laws.Bits64b
namespace Go.Proofs.Ytjmbdoiibchokaa
open Go Go.RowKit
set_option maxRecDepth 20000

/-- A type of elements that are structs or arrays, and the type of its slices. -/
structure El where
  elem : TypeId
  slice : TypeId
  size : Nat
  bytes : Nat
  zero : Array Value
/-- What the program says of it. -/
structure El.Ok (E : El) : Prop where
  hs : Try.prog.underlying E.slice = some (.slice E.elem)
  hu : ∃ d, Try.prog.underlying E.elem = some d ∧ (match d with | .struct _ | .array _ _ => true | _ => false) = true
  hi : (Try.prog.info? E.elem).map (fun i => (i.zero, i.size, i.bytes)) = some (some (.agg E.zero), E.size, E.bytes)
  hz : E.zero.size = E.size
  hp : 0 < E.size
  hb : E.bytes ≤ 100000
  hn : E.size ≤ 100000
theorem El.Ok.info {E : El} (H : E.Ok) : ∃ i, Try.prog.info? E.elem = some i ∧ i.zero = some (.agg E.zero) ∧ i.size = E.size ∧ i.bytes = E.bytes := by
  have h1 := H.hi
  cases h : Try.prog.info? E.elem with
  | none => rw [h] at h1; simp at h1
  | some i =>
    rw [h] at h1
    simp only [Option.map_some, Option.some.injEq, Prod.mk.injEq] at h1
    exact ⟨i, rfl, h1.1, h1.2.1, h1.2.2⟩
/-- An element that lies within a block, from a place on. -/
theorem El.Ok.load {E : El} (H : E.Ok) (w : World) (g off : Nat) (cur : Array Value) (t : TypeId) (fr : Nat × Nat) (cs : Array Value) (hcs : cs.size = E.size) (hg : w.heap[g]? = some (.cells cur t fr)) (hc : ∀ j, j < E.size → cur[off + j]? = cs[j]?) :
    (loadVar E.elem ⟨g, off, none⟩).run Try.prog w = .ok (.agg cs) w := by
  have hl : (loadCells ⟨g, off, none⟩ cs.toList.length).run Try.prog w = .ok cs.toList.toArray w :=
    run_loadCells_list (P := Try.prog) w ⟨g, off, none⟩ cs.toList (fun j v hv => by
      have hadd : (⟨g, off, none⟩ : Addr).add j = ⟨g, off + j, none⟩ := by unfold Addr.add; split <;> simp_all
      have hj : j < E.size := by
        have := (List.getElem?_eq_some_iff.1 hv).1
        rw [Array.length_toList] at this
        omega
      rw [hadd, cell_of_row w g (off + j) cur t fr hg, hc j hj]
      simpa using hv)
  obtain ⟨i, hq, _, hs, _⟩ := H.info
  have hagg : (isAgg E.elem).run Try.prog w = .ok true w := by
    obtain ⟨d, hd, hm⟩ := H.hu
    unfold isAgg
    rw [Sem.run_bind, run_underlying hd w]
    revert hm
    cases d <;> simp [go_sem]
  rw [Array.length_toList, hcs, Array.toArray_toList] at hl
  simp [loadVar, Sem.run_bind, hagg, sizeOf, typeInfo, hq, hs, hl]
theorem own_cells (n : Nat) (cs : Array Value) : ∀ j, j < n → cs[0 + j]? = cs[j]? := fun j _ => by rw [Nat.zero_add]
/-- A slice, wherever it lies, whose elements are these. -/
def GSl {α : Type} (E : El) (enc : α → Array Value) (w : World) (v : Value) (C : List α) : Prop :=
  ∃ (o : Option Addr) (cap : Nat), v = .slice o C.length cap ∧ C.length ≤ cap ∧ cap ≤ maxLen ∧ ∀ (i : Nat) (hi : i < C.length), ∃ g off cur t fr, o = some ⟨g, off, none⟩ ∧ w.heap[g]? = some (.cells cur t fr) ∧ ∀ j, j < E.size → cur[off + i * E.size + j]? = (enc C[i])[j]?
theorem GSl.below {α : Type} {E : El} {enc : α → Array Value} {w w' : World} {v : Value} {C : List α} (h : GSl E enc w v C) (hb : Below w.heap.size w w') : GSl E enc w' v C := by
  obtain ⟨o, cap, rfl, h1, h2, h3⟩ := h
  refine ⟨o, cap, rfl, h1, h2, fun i hi => ?_⟩
  obtain ⟨g, off, cur, t, fr, h4, h5, h6⟩ := h3 i hi
  exact ⟨g, off, cur, t, fr, h4, (hb.block g (Array.getElem?_eq_some_iff.1 h5).1).trans h5, h6⟩
theorem GSl.slice {α : Type} {E : El} {enc : α → Array Value} {w : World} {v : Value} {C : List α} (h : GSl E enc w v C) : ∃ (o : Option Addr) (cap : Nat), v = .slice o C.length cap ∧ C.length ≤ cap ∧ cap ≤ maxLen := by
  obtain ⟨o, cap, h1, h2, h3, _⟩ := h
  exact ⟨o, cap, h1, h2, h3⟩
theorem GSl.at {α : Type} {E : El} {enc : α → Array Value} {w : World} {o : Option Addr} {n cap : Nat} {C : List α} (h : GSl E enc w (.slice o n cap) C) (k : Nat) (hk : k < n) :
    ∃ g off cur t fr, ∃ c : α, o = some ⟨g, off, none⟩ ∧ w.heap[g]? = some (.cells cur t fr) ∧ (∀ j, j < E.size → cur[off + k * E.size + j]? = (enc c)[j]?) ∧ C[k]? = some c := by
  obtain ⟨o', cap', h1, _, _, h3⟩ := h
  simp only [Value.slice.injEq] at h1
  obtain ⟨rfl, rfl, rfl⟩ := h1
  obtain ⟨g, off, cur, t, fr, h4, h5, h6⟩ := h3 k hk
  exact ⟨g, off, cur, t, fr, C[k], h4, h5, h6, List.getElem?_eq_getElem hk⟩
end Go.Proofs.Ytjmbdoiibchokaa
namespace Go.Proofs.Ytjmbdoiibchokaa
open Go Go.Lib Go.RowKit
set_option maxRecDepth 20000

/-! Structs that no slice is made of, in memory. -/
/-- A struct that no slice is made of. -/
structure Ag where
  elem : TypeId
  size : Nat
structure Ag.Ok (E : Ag) : Prop where
  hu : ∃ d, Try.prog.underlying E.elem = some d ∧ (match d with | .struct _ | .array _ _ => true | _ => false) = true
  hi : (Try.prog.info? E.elem).map (fun i => i.size) = some E.size
theorem Ag.Ok.load {E : Ag} (H : E.Ok) (w : World) (g off : Nat) (cur : Array Value) (t : TypeId) (fr : Nat × Nat) (cs : Array Value) (hcs : cs.size = E.size) (hg : w.heap[g]? = some (.cells cur t fr)) (hc : ∀ j, j < E.size → cur[off + j]? = cs[j]?) :
    (loadVar E.elem ⟨g, off, none⟩).run Try.prog w = .ok (.agg cs) w := by
  have hl : (loadCells ⟨g, off, none⟩ cs.toList.length).run Try.prog w = .ok cs.toList.toArray w :=
    run_loadCells_list (P := Try.prog) w ⟨g, off, none⟩ cs.toList (fun j v hv => by
      have hadd : (⟨g, off, none⟩ : Addr).add j = ⟨g, off + j, none⟩ := by unfold Addr.add; split <;> simp_all
      have hj : j < E.size := by
        have := (List.getElem?_eq_some_iff.1 hv).1
        rw [Array.length_toList] at this
        omega
      rw [hadd, cell_of_row w g (off + j) cur t fr hg, hc j hj]
      simpa using hv)
  obtain ⟨i, hq, hs⟩ : ∃ i, Try.prog.info? E.elem = some i ∧ i.size = E.size := by
    have h1 := H.hi
    cases h : Try.prog.info? E.elem with
    | none => rw [h] at h1; simp at h1
    | some i => rw [h] at h1; exact ⟨i, rfl, by simpa using h1⟩
  have hagg : (isAgg E.elem).run Try.prog w = .ok true w := by
    obtain ⟨d, hd, hm⟩ := H.hu
    unfold isAgg
    rw [Sem.run_bind, run_underlying hd w]
    revert hm
    cases d <;> simp [go_sem]
  rw [Array.length_toList, hcs, Array.toArray_toList] at hl
  simp [loadVar, Sem.run_bind, hagg, sizeOf, typeInfo, hq, hs, hl]
theorem wl_loadA {E : Ag} (H : E.Ok) {ops : Array Oper} {rest : List Oper} {o : Oper} {a : Act} {w : World} {Q : Exit → Act → World → Prop} (hw : Region.wanted o (yielded ops a.tmps) = true) (x : Operand) (ho : o.op = .load E.elem x)
    (g off : Nat) (hx : a.eval x = .pointer (some ⟨g, off, none⟩)) (cur : Array Value) (t : TypeId) (fr : Nat × Nat) (cs : Array Value) (hcs : cs.size = E.size) (hg : w.heap[g]? = some (.cells cur t fr)) (hc : ∀ j, j < E.size → cur[off + j]? = cs[j]?)
    (h : wpList Try.prog ops Q rest (a.put o.dst (.agg cs)) w) : wpList Try.prog ops Q (o :: rest) a w := by
  refine wpList_step fun K hK => ?_
  rw [if_pos hw]
  unfold Oper.wp execOp
  simp only [ho, hx, Instr.loadAt, Instr.sureAddr, Sem.run_bind, Sem.run_pure, Result.andThen_ok, H.load w g off cur t fr cs hcs hg hc]
  exact hK _ _ h
theorem wl_storeA {E : Ag} (H : E.Ok) {ops : Array Oper} {rest : List Oper} {o : Oper} {a : Act} {w : World} {Q : Exit → Act → World → Prop} (hgd : o.guard = none) (x y : Operand) (ho : o.op = .store E.elem x y)
    (g : Nat) (cs : Array Value) (hf : cs.size = E.size ∧ cs.all (·.oneCell') = true) (hx : a.eval x = .pointer (some ⟨g, 0, none⟩)) (hy : a.eval y = .agg cs) (old : Array Value) (hg : w.heap[g]? = some (.cells old E.elem (0, 0))) (hold : old.size = E.size)
    (w' : World) (hw' : w.setRow g cs = w')
    (h : wpList Try.prog ops Q rest (a.put o.dst undef) w') : wpList Try.prog ops Q (o :: rest) a w :=
  wpList_store_row hgd E.elem x y ho g cs hx hy E.elem old hg (by rw [hf.1]; exact H.hi) (by rw [hf.1, hold]) hf.2 (by rw [hw']; exact h)
theorem qlA {E : Ag} (H : E.Ok) {C : World → Prop} {ops : Array Oper} {Q : Act → Prop} {rest : List Oper} {o : Oper} {a : Act} (hw : Region.wanted o (yielded ops a.tmps) = true) (x : Operand) (ho : o.op = .load E.elem x)
    (g off : Nat) (hx : a.eval x = .pointer (some ⟨g, off, none⟩)) (cur : Array Value) (t : TypeId) (fr : Nat × Nat) (cs : Array Value) (hcs : cs.size = E.size) (hg : ∀ w', C w' → w'.heap[g]? = some (.cells cur t fr)) (hc : ∀ j, j < E.size → cur[off + j]? = cs[j]?)
    (h : wpQuiet Try.prog ops C Q rest (a.put o.dst (.agg cs))) : wpQuiet Try.prog ops C Q (o :: rest) a := by
  refine BigFrame.wpQuiet_want hw fun K hK => ⟨.agg cs, fun w hC => ?_, hK _ h⟩
  unfold Oper.quietAt execOp
  simp only [ho, hx, Instr.loadAt, Instr.sureAddr, Sem.run_bind, Sem.run_pure, Result.andThen_ok, H.load w g off cur t fr cs hcs (hg w hC) hc]
  exact ⟨rfl, rfl⟩
theorem retA14 {E : Ag} (H : E.Ok) {fn : Func} {R : Ending → World → Prop} {a : Act} {w : World} {p : Tmp} (hr : fn.results = #[.cell p E.elem]) (hd : a.defers = []) (g : Nat) (hp : a.tmps.getD p undef = .pointer (some ⟨g, 0, none⟩)) (cs : Array Value) (hcs : cs.size = E.size)
    (hg : w.heap[g]? = some (.cells cs E.elem (0, 0))) (h : R (.returned (.agg cs)) w) : bodyPost Try.prog fn R .ret a w := by
  refine bodyPost_ret (v := .agg cs) ?_ hd h
  rw [Array.getD_eq_getD_getElem?] at hp
  have hl := H.load w g 0 cs E.elem (0, 0) cs hcs hg (own_cells _ _)
  simp [results, hr, hp, asAddr, hl]
/-- A struct that is stored within a block, from a place on. -/
theorem Ag.Ok.store {E : Ag} (H : E.Ok) (w : World) (g off : Nat) (cur : Array Value) (t : TypeId) (cs : Array Value) (hf : cs.size = E.size ∧ cs.all (·.oneCell') = true) (hg : w.heap[g]? = some (.cells cur t (0, 0))) (hs : off + E.size ≤ cur.size) :
    (storeVar E.elem ⟨g, off, none⟩ (.agg cs)).run Try.prog w = .ok () (w.setRow g (cur.toList.take off ++ cs.toList ++ cur.toList.drop (off + E.size)).toArray) := by
  have hst := run_storeCells_at Try.prog g off t cs.toList 0 cur w hg (by rw [Array.length_toList, hf.1]; omega) (fun v hv => by
    have h1 := Array.all_eq_true_iff_forall_mem.1 hf.2 v (by simpa using hv)
    exact h1)
  obtain ⟨i, hq, hz⟩ : ∃ i, Try.prog.info? E.elem = some i ∧ i.size = E.size := by
    have h1 := H.hi
    cases h : Try.prog.info? E.elem with
    | none => rw [h] at h1; simp at h1
    | some i => rw [h] at h1; exact ⟨i, rfl, by simpa using h1⟩
  rw [Nat.add_zero, Array.length_toList, hf.1] at hst
  simp [storeVar, sizeOf, typeInfo, hq, Value.cells, hz, hf.1]
  simpa using hst
theorem wl_storeAP {E : Ag} (H : E.Ok) {ops : Array Oper} {rest : List Oper} {o : Oper} {a : Act} {w : World} {Q : Exit → Act → World → Prop} (hgd : o.guard = none) (x y : Operand) (ho : o.op = .store E.elem x y)
    (g off : Nat) (hx : a.eval x = .pointer (some ⟨g, off, none⟩)) (cs : Array Value) (hf : cs.size = E.size ∧ cs.all (·.oneCell') = true) (hy : a.eval y = .agg cs) (cur : Array Value) (t : TypeId) (hg : w.heap[g]? = some (.cells cur t (0, 0))) (hs : off + E.size ≤ cur.size)
    (cs' : Array Value) (hcs' : (cur.toList.take off ++ cs.toList ++ cur.toList.drop (off + E.size)).toArray = cs')
    (h : wpList Try.prog ops Q rest (a.put o.dst undef) (w.setRow g cs')) : wpList Try.prog ops Q (o :: rest) a w :=
  wpList_plain hgd fun _ hK => by
    unfold Oper.wp execOp
    simp only [ho, hx, hy, Instr.storeAt, Instr.sureAddr, Sem.run_bind, Sem.run_pure, Result.andThen_ok, H.store w g off cur t cs hf hg hs, hcs']
    exact hK _ _ h
/-- The end of a function whose results are a struct in memory and another one. -/
theorem retAe {E : Ag} (H : E.Ok) {fn : Func} {R : Ending → World → Prop} {a : Act} {w : World} {p u : Tmp} (hr : fn.results = #[.cell p E.elem, .tmp u]) (hd : a.defers = []) (g : Nat) (hp : a.tmps.getD p undef = .pointer (some ⟨g, 0, none⟩)) (cs : Array Value) (hcs : cs.size = E.size)
    (hg : w.heap[g]? = some (.cells cs E.elem (0, 0))) (v : Value) (hu : a.tmps.getD u undef = v) (h : R (.returned (.tuple #[.agg cs, v])) w) : bodyPost Try.prog fn R .ret a w := by
  refine bodyPost_ret (v := .tuple #[.agg cs, v]) ?_ hd h
  rw [results_cell_tmp hr, hp, hu]
  simp [asAddr, H.load w g 0 cs E.elem (0, 0) cs hcs hg (own_cells _ _)]
end Go.Proofs.Ytjmbdoiibchokaa
namespace Go.Proofs.Ytjmbdoiibchokaa
open Go Go.RowKit
set_option maxRecDepth 20000

/-- Bytes as numbers, and back. -/
def nI (B : List UInt8) : List Int := B.map fun b => (b.toNat : Int)
def toB (V : List Int) : List UInt8 := V.map fun x => UInt8.ofNat x.toNat
theorem nI_len (B : List UInt8) : (nI B).length = B.length := by simp [nI]
theorem toB_len (V : List Int) : (toB V).length = V.length := by simp [toB]
theorem toB_nI (B : List UInt8) : toB (nI B) = B := by
  unfold toB nI
  rw [List.map_map]
  conv => rhs; rw [← List.map_id B]
  refine List.map_congr_left fun b _ => ?_
  simp
theorem nI_byt (B : List UInt8) (h : B.length = 13) : Byt (nI B) := by
  refine ⟨by rw [nI_len, h], fun k => ?_⟩
  unfold nI
  rw [List.getD_eq_getElem?_getD, List.getElem?_map]
  cases hq : B[k]? with
  | none => simp
  | some b =>
    have := b.toNat_lt
    simp
    omega
theorem byt_at {V : List Int} (hV : Byt V) (k : Nat) (hk : k < 13) : ((toB V).getD k 0).toNat = (V.getD k 0).toNat ∧ (((toB V).getD k 0).toNat : Int) = V.getD k 0 := by
  have h := hV.2 k
  have e : (toB V).getD k 0 = UInt8.ofNat (V.getD k 0).toNat := by
    unfold toB
    rw [List.getD_eq_getElem?_getD, List.getD_eq_getElem?_getD, List.getElem?_map, List.getElem?_eq_getElem (by rw [hV.1]; exact hk)]
    rfl
  rw [e, UInt8.toNat_ofNat']
  omega
theorem nI_toB {V : List Int} (hV : Byt V) : nI (toB V) = V := by
  apply List.ext_getElem?
  intro k
  by_cases hk : k < 13
  · have h := (byt_at hV k hk).2
    have l1 : k < (nI (toB V)).length := by rw [nI_len, toB_len, hV.1]; exact hk
    have l2 : k < V.length := by rw [hV.1]; exact hk
    have l3 : k < (toB V).length := by rw [toB_len, hV.1]; exact hk
    rw [List.getElem?_eq_getElem l1, List.getElem?_eq_getElem l2]
    rw [List.getD_eq_getElem?_getD, List.getElem?_eq_getElem l3, List.getD_eq_getElem?_getD, List.getElem?_eq_getElem l2] at h
    simp only [Option.getD_some] at h
    congr 1
    simp only [nI, List.getElem_map]
    exact h
  · rw [List.getElem?_eq_none (by rw [nI_len, toB_len, hV.1]; omega), List.getElem?_eq_none (by rw [hV.1]; omega)]
/-- A cube's bytes. -/
def cubeB (V M : List Int) : List UInt8 := toB V ++ toB M
end Go.Proofs.Ytjmbdoiibchokaa
namespace Go.Proofs.Ytjmbdoiibchokaa
open Go Go.RowKit
set_option maxRecDepth 20000

/-! Messages as bytes: the mathematics of layer 16. A field is a number: 0 to 12 the numbers in the order of the struct (Inc Epoch Floor At Of Order Action One Two Sent Use Seq Load), 13 the cube, 14 the header. -/
structure MsgM where
  kind : Int
  num : List Int
  cube : List Int × List Int
  head : List Int
def fldK (k : Int) : List Nat :=
  if k = 1 then [0, 1, 2, 3, 4, 7, 8, 13] else if k = 2 then [0, 1, 2, 3, 4, 5, 6, 13] else if k = 3 then [0, 9, 10, 2] else if k = 4 then [0, 1, 3]
  else if k = 5 then [0, 10, 1, 3, 12] else if k = 6 then [0, 11, 1, 14] else if k = 7 then [0, 11, 1, 6, 13] else []
def numM (m : MsgM) (j : Nat) : Int := m.num.getD j 0
def zeroM (k : Int) : MsgM := ⟨k, List.replicate 13 0, (Z, Z), Z⟩
/-- What lies in memory. -/
def okM (m : MsgM) : Prop := m.num.length = 13 ∧ Byt m.cube.1 ∧ Byt m.cube.2 ∧ Byt m.head
def cubR (m : MsgM) : Bool := m.cube.1 == can m.cube.1 m.cube.2
/-- A message may be. -/
def rightM (m : MsgM) : Bool :=
  !(fldK m.kind).isEmpty && (List.range 13).all (fun j => decide (0 ≤ numM m j) && decide (numM m j ≤ 281474976710655) && (numM m j == 0 || (fldK m.kind).contains j)) &&
  cubR m && ((m.cube.1 == Z && m.cube.2 == Z) || (fldK m.kind).contains 13) && (m.head == Z || (fldK m.kind).contains 14)
def fieldB (m : MsgM) (f : Nat) : List UInt8 := if f = 13 then cubeB m.cube.1 m.cube.2 else if f = 14 then toB m.head else beB 6 (numM m f).toNat
def sizeF (f : Nat) : Nat := if f = 13 then 26 else if f = 14 then 13 else 6
def sizeK (k : Int) : Nat := ((fldK k).map sizeF).sum
def bodyM (m : MsgM) : List UInt8 := (fldK m.kind).flatMap (fieldB m)
def bytesM (m : MsgM) : List UInt8 := sealB m.kind.toNat (bodyM m)
def encM (m : MsgM) : List UInt8 × Int := if rightM m = true then (bytesM m, 0) else ([], 12)
def setF (m : MsgM) (f : Nat) (bs : List UInt8) : MsgM :=
  if f = 13 then { m with cube := (nI (bs.take 13), nI (bs.drop 13)) } else if f = 14 then { m with head := nI bs } else { m with num := m.num.set f (valB bs : Nat) }
def goM : List Nat → List UInt8 → MsgM → Option MsgM
  | [], _, m => some m
  | f :: fs, bs, m => if f = 13 && !(cubR (setF m f (bs.take (sizeF f)))) then none else goM fs (bs.drop (sizeF f)) (setF m f (bs.take (sizeF f)))
def decO (b : List UInt8) : Option MsgM := match openB b with
  | some (k, body) => if (fldK k).isEmpty || body.length != sizeK k then none else goM (fldK k) body (zeroM k)
  | none => none
def decM (b : List UInt8) : MsgM × Int := match decO b with
  | some m => (m, 0)
  | none => (zeroM 0, 12)

theorem fld_cases {P : List Nat → Prop} (h0 : P []) (h1 : P [0, 1, 2, 3, 4, 7, 8, 13]) (h2 : P [0, 1, 2, 3, 4, 5, 6, 13]) (h3 : P [0, 9, 10, 2]) (h4 : P [0, 1, 3]) (h5 : P [0, 10, 1, 3, 12]) (h6 : P [0, 11, 1, 14]) (h7 : P [0, 11, 1, 6, 13]) (k : Int) : P (fldK k) := by
  unfold fldK
  repeat' split
  all_goals assumption
theorem fld_nodup (k : Int) : (fldK k).Nodup := fld_cases (P := List.Nodup) (by decide) (by decide) (by decide) (by decide) (by decide) (by decide) (by decide) (by decide) k
theorem fldK_lt (k : Int) : ∀ f ∈ fldK k, f < 15 := fld_cases (P := fun l => ∀ f ∈ l, f < 15) (by decide) (by decide) (by decide) (by decide) (by decide) (by decide) (by decide) (by decide) k
theorem fld_kind {k : Int} (h : (fldK k).isEmpty = false) : 1 ≤ k ∧ k ≤ 7 := by
  by_cases h0 : 1 ≤ k ∧ k ≤ 7
  · exact h0
  · unfold fldK at h
    rw [if_neg (by omega), if_neg (by omega), if_neg (by omega), if_neg (by omega), if_neg (by omega), if_neg (by omega), if_neg (by omega)] at h
    simp at h
theorem size_le (k : Int) : sizeK k ≤ 68 := by
  unfold sizeK
  exact fld_cases (P := fun l => (l.map sizeF).sum ≤ 68) (by decide) (by decide) (by decide) (by decide) (by decide) (by decide) (by decide) (by decide) k
theorem fieldB_len {m : MsgM} (h : okM m) (f : Nat) : (fieldB m f).length = sizeF f := by
  unfold fieldB sizeF cubeB
  by_cases h1 : f = 13
  · rw [if_pos h1, if_pos h1, List.length_append, toB_len, toB_len, h.2.1.1, h.2.2.1.1]
  · rw [if_neg h1, if_neg h1]
    by_cases h2 : f = 14
    · rw [if_pos h2, if_pos h2, toB_len, h.2.2.2.1]
    · rw [if_neg h2, if_neg h2, beB_len]
theorem body_len {m : MsgM} (h : okM m) : ∀ fs : List Nat, (fs.flatMap (fieldB m)).length = (fs.map sizeF).sum
  | [] => rfl
  | f :: fs => by rw [List.flatMap_cons, List.length_append, fieldB_len h, body_len h fs, List.map_cons, List.sum_cons]
/-- Numbers within bounds. -/
def inM (m : MsgM) : Prop := okM m ∧ ∀ j, j < 13 → 0 ≤ numM m j ∧ numM m j < 281474976710656
theorem zero_in (k : Int) : inM (zeroM k) := by
  refine ⟨⟨by simp [zeroM], Z_byt, Z_byt, Z_byt⟩, fun j hj => ?_⟩
  unfold numM zeroM
  rw [List.getD_eq_getElem?_getD, List.getElem?_replicate, if_pos hj]
  simp
theorem set_kind (m : MsgM) (f : Nat) (bs : List UInt8) : (setF m f bs).kind = m.kind := by
  unfold setF
  split
  · rfl
  · split <;> rfl
theorem set_field {m : MsgM} (h : okM m) {f : Nat} (hf : f < 15) {bs : List UInt8} (hb : bs.length = sizeF f) {g : Nat} (hg : g < 15) : fieldB (setF m f bs) g = if g = f then bs else fieldB m g := by
  unfold setF
  by_cases h1 : f = 13
  · subst h1
    rw [if_pos rfl]
    unfold fieldB cubeB
    by_cases h2 : g = 13
    · rw [if_pos h2, if_pos h2]
      dsimp only
      rw [toB_nI, toB_nI, List.take_append_drop]
    · rw [if_neg h2, if_neg h2, if_neg h2]
      rfl
  · rw [if_neg h1]
    by_cases h3 : f = 14
    · subst h3
      rw [if_pos rfl]
      unfold fieldB
      by_cases h2 : g = 14
      · subst h2
        rw [if_neg (by decide), if_pos rfl, if_pos rfl]
        dsimp only
        rw [toB_nI]
      · by_cases h4 : g = 13
        · subst h4
          rw [if_pos rfl, if_neg (by decide), if_pos rfl]
        · simp only [if_neg h4, if_neg h2]
          rfl
    · rw [if_neg h3]
      have hs : bs.length = 6 := by
        rw [hb]
        unfold sizeF
        rw [if_neg h1, if_neg h3]
      unfold fieldB
      by_cases h2 : g = f
      · subst h2
        rw [if_neg h1, if_neg h3, if_pos rfl]
        unfold numM
        dsimp only
        rw [List.getD_eq_getElem?_getD, List.getElem?_set_self (by rw [h.1]; omega), Option.getD_some, Int.toNat_natCast, ← hs]
        exact be_valB bs
      · rw [if_neg h2]
        by_cases h4 : g = 13
        · rw [if_pos h4, if_pos h4]
        · rw [if_neg h4, if_neg h4]
          by_cases h5 : g = 14
          · rw [if_pos h5, if_pos h5]
          · rw [if_neg h5, if_neg h5]
            unfold numM
            dsimp only
            rw [List.getD_eq_getElem?_getD, List.getElem?_set_ne (fun e => h2 e.symm), ← List.getD_eq_getElem?_getD]
theorem setF_in {m : MsgM} (h : inM m) {f : Nat} (hf : f < 15) {bs : List UInt8} (hb : bs.length = sizeF f) : inM (setF m f bs) := by
  unfold setF
  by_cases h1 : f = 13
  · subst h1
    rw [if_pos rfl]
    have : bs.length = 26 := hb
    exact ⟨⟨h.1.1, nI_byt _ (by rw [List.length_take]; omega), nI_byt _ (by rw [List.length_drop]; omega), h.1.2.2.2⟩, h.2⟩
  · rw [if_neg h1]
    by_cases h3 : f = 14
    · subst h3
      rw [if_pos rfl]
      have : bs.length = 13 := hb
      exact ⟨⟨h.1.1, h.1.2.1, h.1.2.2.1, nI_byt _ this⟩, h.2⟩
    · rw [if_neg h3]
      have hs : bs.length = 6 := by
        rw [hb]
        unfold sizeF
        rw [if_neg h1, if_neg h3]
      refine ⟨⟨by simp [h.1.1], h.1.2.1, h.1.2.2.1, h.1.2.2.2⟩, fun j hj => ?_⟩
      unfold numM
      dsimp only
      by_cases h2 : j = f
      · subst h2
        rw [List.getD_eq_getElem?_getD, List.getElem?_set_self (by rw [h.1.1]; omega), Option.getD_some]
        have := valB_lt bs
        rw [hs] at this
        omega
      · rw [List.getD_eq_getElem?_getD, List.getElem?_set_ne (fun e => h2 e.symm), ← List.getD_eq_getElem?_getD]
        exact h.2 j hj
/-- Two messages with the same bytes of each field are the same. -/
theorem be6_inj {a b : Int} (ha : 0 ≤ a ∧ a < 281474976710656) (hb : 0 ≤ b ∧ b < 281474976710656) (h : beB 6 a.toNat = beB 6 b.toNat) : a = b := by
  have h1 := congrArg valB h
  rw [valB_be, valB_be, Nat.mod_eq_of_lt (by omega), Nat.mod_eq_of_lt (by omega)] at h1
  omega
theorem toB_inj {V W : List Int} (hV : Byt V) (hW : Byt W) (h : toB V = toB W) : V = W := by
  rw [← nI_toB hV, ← nI_toB hW, h]
theorem msg_ext {m n : MsgM} (hm : inM m) (hn : inM n) (hk : m.kind = n.kind) (h : ∀ f, f < 15 → fieldB m f = fieldB n f) : m = n := by
  have hnum : m.num = n.num := by
    apply List.ext_getElem?
    intro j
    by_cases hj : j < 13
    · have h1 := h j (by omega)
      unfold fieldB at h1
      rw [if_neg (by omega), if_neg (by omega), if_neg (by omega), if_neg (by omega)] at h1
      have h2 := be6_inj (hm.2 j hj) (hn.2 j hj) h1
      unfold numM at h2
      rw [List.getD_eq_getElem?_getD, List.getD_eq_getElem?_getD, List.getElem?_eq_getElem (by rw [hm.1.1]; exact hj), List.getElem?_eq_getElem (by rw [hn.1.1]; exact hj)] at h2
      rw [List.getElem?_eq_getElem (by rw [hm.1.1]; exact hj), List.getElem?_eq_getElem (by rw [hn.1.1]; exact hj)]
      exact congrArg some h2
    · rw [List.getElem?_eq_none (by rw [hm.1.1]; omega), List.getElem?_eq_none (by rw [hn.1.1]; omega)]
  have h13 : cubeB m.cube.1 m.cube.2 = cubeB n.cube.1 n.cube.2 := h 13 (by decide)
  have h14 : toB m.head = toB n.head := h 14 (by decide)
  unfold cubeB at h13
  obtain ⟨e1, e2⟩ := List.append_inj h13 (by rw [toB_len, toB_len, hm.1.2.1.1, hn.1.2.1.1])
  have c1 := toB_inj hm.1.2.1 hn.1.2.1 e1
  have c2 := toB_inj hm.1.2.2.1 hn.1.2.2.1 e2
  have c3 := toB_inj hm.1.2.2.2 hn.1.2.2.2 h14
  obtain ⟨k, nm, ⟨a, b⟩, hd⟩ := m
  obtain ⟨k', nm', ⟨a', b'⟩, hd'⟩ := n
  dsimp only at hk hnum c1 c2 c3
  rw [hk, hnum, c1, c2, c3]
/-- What is read field by field. -/
theorem go_spec : ∀ (fs : List Nat) (bs : List UInt8) (m m' : MsgM), fs.Nodup → (∀ f ∈ fs, f < 15) → bs.length = (fs.map sizeF).sum → inM m → goM fs bs m = some m' →
    inM m' ∧ m'.kind = m.kind ∧ fs.flatMap (fieldB m') = bs ∧ (∀ g, g < 15 → g ∉ fs → fieldB m' g = fieldB m g)
  | [], bs, m, m', _, _, hb, hm, h => by
    simp at hb
    obtain rfl := Option.some.inj h
    exact ⟨hm, rfl, hb.symm, fun g _ _ => rfl⟩
  | f :: fs, bs, m, m', hd, hlt, hb, hm, h => by
    rw [List.map_cons, List.sum_cons] at hb
    have hf := hlt f List.mem_cons_self
    have hbl : (bs.take (sizeF f)).length = sizeF f := by rw [List.length_take]; omega
    unfold goM at h
    split at h
    · cases h
    · obtain ⟨g1, g2, g3, g4⟩ := go_spec fs _ _ m' (List.nodup_cons.1 hd).2 (fun x hx => hlt x (List.mem_cons_of_mem _ hx)) (by rw [List.length_drop]; omega) (setF_in hm hf hbl) h
      refine ⟨g1, g2.trans (set_kind _ _ _), ?_, fun g hg hn => ?_⟩
      · rw [List.flatMap_cons, g3, g4 f hf (List.nodup_cons.1 hd).1, set_field hm.1 hf hbl hf, if_pos rfl, List.take_append_drop]
      · rw [g4 g hg (fun e => hn (List.mem_cons_of_mem _ e)), set_field hm.1 hf hbl hg, if_neg (fun e => hn (by rw [e]; exact List.mem_cons_self))]
/-- What may be is read whole. -/
theorem go_some {n : MsgM} (hn : inM n) (hc : cubR n = true) : ∀ (fs : List Nat) (m : MsgM), (∀ f ∈ fs, f < 15) → inM m → ∃ m', goM fs (fs.flatMap (fieldB n)) m = some m'
  | [], m, _, _ => ⟨m, rfl⟩
  | f :: fs, m, hlt, hm => by
    have hf := hlt f List.mem_cons_self
    have hl := fieldB_len hn.1 f
    rw [List.flatMap_cons]
    unfold goM
    rw [List.take_left' hl, List.drop_left' hl]
    have hcub : (f = 13 && !(cubR (setF m f (fieldB n f)))) = false := by
      by_cases h1 : f = 13
      · subst h1
        have e1 : setF m 13 (fieldB n 13) = { m with cube := n.cube } := by
          unfold setF
          rw [if_pos rfl]
          unfold fieldB cubeB
          rw [if_pos rfl, List.take_left' (by rw [toB_len, hn.1.2.1.1]), List.drop_left' (by rw [toB_len, hn.1.2.1.1]), nI_toB hn.1.2.1, nI_toB hn.1.2.2.1]
        rw [e1]
        have : cubR { m with cube := n.cube } = true := hc
        rw [this]; rfl
      · simp [h1]
    rw [hcub]
    exact go_some hn hc fs _ (fun x hx => hlt x (List.mem_cons_of_mem _ hx)) (setF_in hm hf hl)
theorem go_right : ∀ (fs : List Nat) (bs : List UInt8) (m m' : MsgM), fs.Nodup → cubR m = true → goM fs bs m = some m' → cubR m' = true
  | [], bs, m, m', _, hc, h => by
    obtain rfl := Option.some.inj h
    exact hc
  | f :: fs, bs, m, m', hd, hc, h => by
    unfold goM at h
    split at h
    · cases h
    · rename_i h1
      refine go_right fs _ _ m' (List.nodup_cons.1 hd).2 ?_ h
      by_cases h2 : f = 13
      · subst h2
        cases e : cubR (setF m 13 (bs.take (sizeF 13))) with
        | true => rfl
        | false => rw [e] at h1; simp at h1
      · have : cubR (setF m f (bs.take (sizeF f))) = cubR m := by
          unfold setF cubR
          rw [if_neg h2]
          split <;> rfl
        rw [this]; exact hc
theorem right_iff (m : MsgM) : rightM m = true ↔ (fldK m.kind).isEmpty = false ∧ (∀ j, j < 13 → 0 ≤ numM m j ∧ numM m j < 281474976710656 ∧ (j ∉ fldK m.kind → numM m j = 0)) ∧ cubR m = true ∧ (13 ∉ fldK m.kind → m.cube.1 = Z ∧ m.cube.2 = Z) ∧ (14 ∉ fldK m.kind → m.head = Z) := by
  unfold rightM
  simp only [Bool.and_eq_true, Bool.not_eq_true', List.all_eq_true, List.mem_range, decide_eq_true_eq, Bool.or_eq_true, beq_iff_eq, List.contains_iff_mem]
  constructor
  · rintro ⟨⟨⟨⟨h1, h2⟩, h3⟩, h4⟩, h5⟩
    refine ⟨h1, fun j hj => ⟨(h2 j hj).1.1, by have := (h2 j hj).1.2; omega, fun hn => (h2 j hj).2.resolve_right hn⟩, h3, fun hn => h4.resolve_right hn, fun hn => h5.resolve_right hn⟩
  · rintro ⟨h1, h2, h3, h4, h5⟩
    refine ⟨⟨⟨⟨h1, fun j hj => ⟨⟨(h2 j hj).1, by have := (h2 j hj).2.1; omega⟩, ?_⟩⟩, h3⟩, ?_⟩, ?_⟩
    · by_cases e : j ∈ fldK m.kind
      · exact .inr e
      · exact .inl ((h2 j hj).2.2 e)
    · by_cases e : 13 ∈ fldK m.kind
      · exact .inr e
      · exact .inl (h4 e)
    · by_cases e : 14 ∈ fldK m.kind
      · exact .inr e
      · exact .inl (h5 e)
theorem right_in {m : MsgM} (h : okM m) (hr : rightM m = true) : inM m := ⟨h, fun j hj => by
  have := ((right_iff m).1 hr).2.1 j hj
  exact ⟨this.1, this.2.1⟩⟩
/-- Other fields are zero. -/
theorem right_zero {m : MsgM} (hr : rightM m = true) {g : Nat} (hg : g < 15) (hn : g ∉ fldK m.kind) : fieldB m g = fieldB (zeroM m.kind) g := by
  obtain ⟨_, h2, _, h4, h5⟩ := (right_iff m).1 hr
  unfold fieldB
  by_cases h1 : g = 13
  · subst h1
    rw [if_pos rfl, if_pos rfl, (h4 hn).1, (h4 hn).2]; rfl
  · rw [if_neg h1, if_neg h1]
    by_cases h3 : g = 14
    · subst h3
      rw [if_pos rfl, if_pos rfl, h5 hn]; rfl
    · rw [if_neg h3, if_neg h3, (h2 g (by omega)).2.2 hn]
      have : numM (zeroM m.kind) g = 0 := by
        unfold numM zeroM
        rw [List.getD_eq_getElem?_getD, List.getElem?_replicate]
        split <;> rfl
      rw [this]
theorem flat_inj {m n : MsgM} (hm : okM m) (hn : okM n) : ∀ fs : List Nat, fs.flatMap (fieldB m) = fs.flatMap (fieldB n) → ∀ f ∈ fs, fieldB m f = fieldB n f
  | [], _, f, hf => absurd hf (List.not_mem_nil)
  | x :: fs, h, f, hf => by
    rw [List.flatMap_cons, List.flatMap_cons] at h
    obtain ⟨h1, h2⟩ := List.append_inj h (by rw [fieldB_len hm, fieldB_len hn])
    rcases List.mem_cons.1 hf with rfl | hf
    · exact h1
    · exact flat_inj hm hn fs h2 f hf
theorem zero_right (k : Int) : cubR (zeroM k) = true := by
  unfold cubR zeroM
  dsimp only
  rw [show can Z Z = Z by kernel_rfl]
  simp
theorem kind_nat {k : Int} (h : (fldK k).isEmpty = false) : ((k.toNat : Nat) : Int) = k ∧ k.toNat < 256 := by
  have := fld_kind h
  omega
/-- A message that may be is read from its bytes as it was. -/
theorem dec_enc {m : MsgM} (h : okM m) (hr : rightM m = true) : decO (bytesM m) = some m := by
  obtain ⟨h1, h2, h3, h4, h5⟩ := (right_iff m).1 hr
  have hin := right_in h hr
  have hk := kind_nat h1
  have hbl : (bodyM m).length = sizeK m.kind := body_len h _
  have hsz := size_le m.kind
  unfold decO bytesM
  rw [open_seal _ hk.2 _ (by omega)]
  dsimp only
  rw [hk.1, h1, hbl]
  simp only [bne_self_eq_false, Bool.or_self, Bool.false_eq_true, if_false]
  obtain ⟨m', hm'⟩ := go_some hin h3 (fldK m.kind) (zeroM m.kind) (fldK_lt _) (zero_in _)
  have hm2 : goM (fldK m.kind) (bodyM m) (zeroM m.kind) = some m' := hm'
  obtain ⟨g1, g2, g3, g4⟩ := go_spec _ _ _ _ (fld_nodup m.kind) (fldK_lt _) hbl (zero_in _) hm2
  rw [hm2]
  congr 1
  refine msg_ext g1 hin g2 fun f hf => ?_
  by_cases e : f ∈ fldK m.kind
  · exact flat_inj g1.1 h _ g3 f e
  · rw [g4 f hf e, right_zero hr hf e]
/-- What is read may be, and has just these bytes. -/
theorem enc_dec {b : List UInt8} {m : MsgM} (h : decO b = some m) : okM m ∧ rightM m = true ∧ bytesM m = b := by
  unfold decO at h
  cases ho : openB b with
  | none => rw [ho] at h; cases h
  | some kb =>
    obtain ⟨k, body⟩ := kb
    rw [ho] at h
    dsimp only at h
    split at h
    · cases h
    · rename_i hc
      rw [Bool.or_eq_true, not_or, Bool.not_eq_true, bne_iff_ne, Classical.not_not] at hc
      obtain ⟨g1, g2, g3, g4⟩ := go_spec _ _ _ _ (fld_nodup (k : Int)) (fldK_lt _) hc.2 (zero_in _) h
      have g5 := go_right _ _ _ _ (fld_nodup (k : Int)) (zero_right _) h
      have hkk : m.kind = (k : Int) := g2
      have hz : ∀ g, g < 15 → g ∉ fldK m.kind → fieldB m g = fieldB (zeroM (k : Int)) g := fun g hg hn => g4 g hg (by rw [← hkk]; exact hn)
      have hmz : ∀ j, numM (zeroM (k : Int)) j = 0 := fun j => by
        unfold numM zeroM
        rw [List.getD_eq_getElem?_getD, List.getElem?_replicate]
        split <;> rfl
      refine ⟨g1.1, (right_iff m).2 ⟨by rw [hkk]; exact hc.1, fun j hj => ⟨(g1.2 j hj).1, (g1.2 j hj).2, fun hn => ?_⟩, g5, fun hn => ?_, fun hn => ?_⟩, ?_⟩
      · have h1 := hz j (by omega) hn
        unfold fieldB at h1
        rw [if_neg (by omega), if_neg (by omega), if_neg (by omega), if_neg (by omega)] at h1
        have := be6_inj (g1.2 j hj) ((zero_in (k : Int)).2 j hj) h1
        rw [this, hmz]
      · have h1 : cubeB m.cube.1 m.cube.2 = cubeB Z Z := hz 13 (by decide) hn
        unfold cubeB at h1
        obtain ⟨e1, e2⟩ := List.append_inj h1 (by rw [toB_len, toB_len, g1.1.2.1.1, Z_byt.1])
        exact ⟨toB_inj g1.1.2.1 Z_byt e1, toB_inj g1.1.2.2.1 Z_byt e2⟩
      · exact toB_inj g1.1.2.2.2 Z_byt (hz 14 (by decide) hn)
      · unfold bytesM bodyM
        rw [hkk, g3, Int.toNat_natCast]
        exact (seal_open ho).1
/-- Unlike messages have unlike bytes. -/
theorem bytes_inj {m n : MsgM} (hm : okM m) (hn : okM n) (h1 : rightM m = true) (h2 : rightM n = true) (h : bytesM m = bytesM n) : m = n := by
  have e1 := dec_enc hm h1
  have e2 := dec_enc hn h2
  rw [h, e2] at e1
  exact (Option.some.inj e1).symm
/-- Without the last byte, or with one more, they are none. -/
theorem dec_less {m : MsgM} (h : okM m) : decO ((bytesM m).take ((bytesM m).length - 1)) = none := by
  have hbl : (bodyM m).length = sizeK m.kind := body_len h _
  have hsz := size_le m.kind
  unfold decO bytesM
  rw [open_less _ _ (by omega)]
theorem dec_more {m : MsgM} (h : okM m) (x : UInt8) : decO (bytesM m ++ [x]) = none := by
  have hbl : (bodyM m).length = sizeK m.kind := body_len h _
  have hsz := size_le m.kind
  unfold decO bytesM
  rw [open_more _ _ (by omega)]
end Go.Proofs.Ytjmbdoiibchokaa
namespace Go.Proofs.Ytjmbdoiibchokaa
open Go Go.RowKit
set_option maxRecDepth 20000

def canB (n : Int) : Bool := decide (1 ≤ n) && decide (n ≤ 8)
set_option maxHeartbeats 2000000 in
theorem canBe_any (n : Int) (w : World) :
    Calls Try.prog 50 #[.int .i64 n] w fun e w' => e = .returned (.bool (canB n)) ∧ w' = w := by
  by_cases h1 : 1 ≤ n
  · by_cases h2 : n ≤ 8
    · have HC : Hid (canB n = true) := by show _ = _; unfold canB; simp [h1, h2]
      go_enter Try.func50, Try.ntmps50
      go_wp2_with fail
      go_ret
      rw [HC.out]
      exact ⟨rfl, rfl⟩
    · have HC : Hid (canB n = false) := by show _ = _; unfold canB; simp [h2]
      go_enter Try.func50, Try.ntmps50
      go_wp2_with fail
      go_ret
      rw [HC.out]
      exact ⟨rfl, rfl⟩
  · have HC : Hid (canB n = false) := by show _ = _; unfold canB; simp [h1]
    go_enter Try.func50, Try.ntmps50
    go_wp2_with fail
    go_ret
    rw [HC.out]
    exact ⟨rfl, rfl⟩

set_option maxHeartbeats 2000000 in
theorem reaches_any (o : Option Addr) (n cap : Nat) (hn : n ≤ maxLen) (p q : Int) (hp : 0 ≤ p) (hp2 : p ≤ 9223372036854775807) (w : World) :
    Calls Try.prog 51 #[.slice o n cap, .int .i64 p, .int .i64 q] w fun e w' => e = .returned (.bool (decide (q ≤ (n : Int) - p))) ∧ w' = w := by
  unfold maxLen at hn
  go_enter Try.func51, Try.ntmps51
  go_wp2_with fail
  go_ret
  exact ⟨rfl, rfl⟩

theorem valB_take (L : List UInt8) (k : Nat) (c : UInt8) (h : L[k]? = some c) : valB (L.take (k + 1)) = valB (L.take k) * 256 + c.toNat := by
  have hk := (List.getElem?_eq_some_iff.1 h).1
  rw [List.take_succ_eq_append_getElem hk, valB_snoc, (List.getElem?_eq_some_iff.1 h).2]
theorem valB_take_lt (L : List UInt8) (k : Nat) (hk : k ≤ L.length) : valB (L.take k) < 256 ^ k := by
  have := valB_lt (L.take k)
  rwa [List.length_take, Nat.min_eq_left hk] at this
theorem valB_take7 (L : List UInt8) (k : Nat) (hk : k < L.length) (h8 : L.length ≤ 8) : valB (L.take k) < 72057594037927936 :=
  Nat.lt_of_lt_of_le (valB_take_lt L k (by omega)) (Nat.le_trans (Nat.pow_le_pow_right (by decide) (show k ≤ 7 by omega)) (by decide))
theorem or_byte (n x : Nat) (hx : x < 256) : n * 256 ||| x = n * 256 + x := by
  have := Nat.shiftLeft_add_eq_or_of_lt (show x < 2 ^ 8 from hx) n
  rw [Nat.shiftLeft_eq] at this
  exact this.symm

theorem or_u64 (n x : Nat) (hn : n < 72057594037927936) (hx : x < 256) : bits .or .u64 ((n : Int) * 256) (x : Int) = ((n * 256 + x : Nat) : Int) := by
  have e : ((n : Int) * 256) = ((n * 256 : Nat) : Int) := by omega
  have hb : n * 256 + x < 18446744073709551616 := by omega
  rw [e, bits_or_u64_nat _ _ (by omega) (by omega), or_byte n x hx]

set_option maxHeartbeats 2000000 in
theorem number_any (v : Value) (L : List UInt8) (w : World) (hL : BSl w v L) (h8 : L.length ≤ 8) :
    Calls Try.prog 43 #[v] w fun e w' => e = .returned (.int .u64 (valB L : Int)) ∧ w' = w := by
  have hL' := hL
  obtain ⟨o, cap, rfl, h1, h2⟩ := hL'.slice
  have HL : Hid (BSl w (.slice o L.length cap) L) := hL
  obtain ⟨n, hn⟩ : ∃ n, n = L.length := ⟨_, rfl⟩
  have HN : Hid (n = L.length) := hn
  rw [← hn] at HL h1 h8 ⊢
  clear hn hL hL'
  go_enter Try.func43, Try.ntmps43
  go_wp2_with fail
  go_loop [3, 8] (fun a i => ∃ k : Nat, k ≤ n ∧ i = .int .i64 k ∧ a = .int .u64 (valB (L.take k) : Int)) (fun _ i => n - (intOf i).toNat)
  case atStart => exact ⟨0, Nat.zero_le _, rfl, rfl⟩
  case round =>
    obtain ⟨k, hk, rfl, rfl⟩ := hrel
    by_cases hlt : k < n
    · obtain ⟨g, off, c, rfl, hc, hck⟩ := HL.out.at k hlt
      have HV : Hid (valB (L.take (k + 1)) = valB (L.take k) * 256 + c.toNat) := valB_take L k c hck
      have hv := valB_take7 L k (by rw [← HN.out]; omega) (by rw [← HN.out]; omega)
      obtain ⟨x, hx⟩ : ∃ x, x = valB (L.take k) := ⟨_, rfl⟩
      rw [← hx] at HV hv ⊢
      have hcl := c.toNat_lt
      clear hx hck
      go_wp2_with fail
      refine ⟨⟨k + 1, by omega, by go_num, ?_⟩, by simp [intOf]; omega⟩
      rw [HV.out, or_u64 x c.toNat hv hcl]
    · go_wp2_with fail
      go_ret
      obtain rfl : k = n := by omega
      rw [HN.out, List.take_length]
      exact ⟨rfl, rfl⟩

theorem beB_at (s n k : Nat) (hk : k < s) : (beB s n)[k]? = some (UInt8.ofNat (n / 256 ^ (s - 1 - k) % 256)) := by
  induction s generalizing k with
  | zero => omega
  | succ s ih =>
    rw [beB_ahead]
    cases k with
    | zero => simp
    | succ k => rw [List.getElem?_cons_succ, ih k (by omega), show s + 1 - 1 - (k + 1) = s - 1 - k by omega]
/-- So many bytes as are laid already, and noughts. -/
def digP (s n k : Nat) : List UInt8 := (beB s n).take k ++ List.replicate (s - k) 0
theorem digP_len (s n k : Nat) (h : k ≤ s) : (digP s n k).length = s := by unfold digP; rw [List.length_append, List.length_take, beB_len, List.length_replicate]; omega
theorem digP_zero (s n : Nat) : digP s n 0 = List.replicate s 0 := by unfold digP; simp
theorem digP_all (s n : Nat) : digP s n s = beB s n := by unfold digP; rw [List.take_of_length_le (by rw [beB_len]; exact Nat.le_refl _)]; simp
theorem digP_succ (s n k : Nat) (h : k < s) : digP s n (k + 1) = (digP s n k).set k (UInt8.ofNat (n / 256 ^ (s - 1 - k) % 256)) := by
  unfold digP
  have hl : ((beB s n).take k).length = k := by rw [List.length_take, beB_len]; omega
  rw [List.set_append_right _ _ (by omega), hl, Nat.sub_self, List.take_add_one, beB_at s n k h]
  obtain ⟨m, hm⟩ : ∃ m, s - k = m + 1 := ⟨s - k - 1, by omega⟩
  rw [hm, show s - (k + 1) = m by omega]
  simp [List.replicate_succ]
theorem BOwn.set {B : Nat} {w : World} {g n cap : Nat} {L : List UInt8} (h : BOwn B w (.slice (some ⟨g, 0, none⟩) n cap) L) (k : Nat) (b : UInt8) : BOwn B (w.setCell ⟨g, k, none⟩ (.int .u8 (b.toNat : Int))) (.slice (some ⟨g, 0, none⟩) n cap) (L.set k b) := by
  have hn := h.sl.len
  subst hn
  have := (World.ownsRow.stored h k (.int .u8 (b.toNat : Int))).1
  unfold BOwn
  rw [List.length_set]
  have e : Lib.byteCells (L.set k b) = (Lib.byteCells L).set k (.int .u8 (b.toNat : Int)) := by unfold Lib.byteCells; rw [List.map_set]
  rw [e]
  exact this
theorem dig_byte (n m : Nat) : (n : Int) / 2 ^ (m * 8) % 256 = ((UInt8.ofNat (n / 256 ^ m % 256)).toNat : Int) := by
  rw [UInt8.toNat_ofNat', Nat.mod_mod]
  have e : (2 : Int) ^ (m * 8) = ((256 ^ m : Nat) : Int) := by
    rw [Nat.mul_comm, Int.pow_mul]
    simp
  rw [e]
  simp
/-- Bytes that are made: noughts. -/
theorem wl_makeW {ops : Array Oper} {rest : List Oper} {o : Oper} {a : Act} {w : World} {Q : Exit → Act → World → Prop} (hgd : o.guard = none) (x y : Operand) (ho : o.op = .makeSlice 30 x y)
    (n : Nat) (hx : a.eval x = .int .i64 (n : Int)) (hy : a.eval y = .int .i64 (n : Int)) (hn : n ≤ 1000)
    (h : ∀ w', BOwn w.heap.size w' (.slice (some ⟨w.heap.size, 0, none⟩) n n) (List.replicate n 0) → Below w.heap.size w w' → wpList Try.prog ops Q rest (a.put o.dst (.slice (some ⟨w.heap.size, 0, none⟩) n n)) w') : wpList Try.prog ops Q (o :: rest) a w := by
  obtain ⟨i, hi, hz, h1, h2⟩ := infoB
  refine wpList_plain hgd fun K hK => ?_
  obtain ⟨w', hr, hown, hgr⟩ := run_make_full (P := Try.prog) w w.heap.size 30 5 i (.int .u8 0) 1 Try.underlying30 hi hz h1 .i64 .i64 n (by rw [h2]; omega) (by unfold maxLen; omega) (Nat.le_refl _)
  unfold Oper.wp execOp
  simp only [ho, hx, hy, hr, Sem.run_bind, Sem.run_pure, Result.andThen_ok]
  refine hK _ _ (h w' ?_ ((Below.refl _ _).grown hgr (Nat.le_refl _) fun k hk => by cases hk))
  unfold BOwn
  rw [List.length_replicate]
  have e : Lib.byteCells (List.replicate n 0) = (madeCells (Value.int .u8 0).cells (n * 1)).toList := by
    show _ = (madeCells #[.int .u8 0] (n * 1)).toList
    rw [toList_madeCells_one, Nat.mul_one]
    unfold Lib.byteCells
    simp
  rw [e]
  exact hown
set_option maxHeartbeats 2000000 in
theorem digits_any (n s : Nat) (hs : s ≤ 8) (w : World) :
    Calls Try.prog 40 #[.int .u64 (n : Int), .int .i64 (s : Int)] w fun e w' => ∃ v, e = .returned v ∧ BOwn w.heap.size w' v (beB s n) ∧ Below w.heap.size w w' := by
  go_enter Try.func40, Try.ntmps40
  go_wp2_with (refine wl_makeW rfl _ _ rfl s rfl rfl (by omega) ?_; intro w1 ho hb)
  have HO : Hid (BOwn w.heap.size w1 (.slice (some ⟨w.heap.size, 0, none⟩) s s) (digP s n 0)) := by rw [digP_zero]; exact ho
  have HB : Hid (Below w.heap.size w w1) := hb
  clear ho hb
  go_wp2_with fail
  go_loopw [11] (fun i W => ∃ k : Nat, k ≤ s ∧ i = .int .i64 k ∧ BOwn w.heap.size W (.slice (some ⟨w.heap.size, 0, none⟩) s s) (digP s n k) ∧ Below w.heap.size w W) (fun i _ => s - (intOf i).toNat)
  case atStart => exact ⟨0, Nat.zero_le _, rfl, HO.out, HB.out⟩
  case round =>
    obtain ⟨k, hk, rfl, ho, hb⟩ := hrel
    have HO1 : Hid (BOwn w.heap.size wr (.slice (some ⟨w.heap.size, 0, none⟩) s s) (digP s n k)) := ho
    have HB1 : Hid (Below w.heap.size w wr) := hb
    by_cases hlt : k < s
    · obtain ⟨_, _, c, e, hc, _⟩ := ho.sl.at k hlt
      simp only [Option.some.injEq, Addr.mk.injEq, and_true] at e
      obtain ⟨rfl, rfl⟩ := e
      have hf : wr.frozen? ⟨w.heap.size, k, none⟩ = false := World.ownsRow.frozenAt (n := s) (by have := HO1.out; unfold BOwn at this; rw [digP_len s n k hk] at this; exact this) k
      rw [Nat.zero_add] at hc
      clear ho hb
      have HD : Hid ((n : Int) / 2 ^ ((s - 1 - k) * 8) % 256 = ((UInt8.ofNat (n / 256 ^ (s - 1 - k) % 256)).toNat : Int)) := dig_byte n (s - 1 - k)
      go_wp2_with fail
      refine ⟨⟨k + 1, by omega, by go_num, ?_, HB1.out.setCell (by simp) _⟩, by simp [intOf]; omega⟩
      rw [HD.out, digP_succ s n k hlt]
      exact HO1.out.set k _
    · obtain rfl : k = s := by omega
      clear ho hb
      go_wp2_with fail
      go_ret
      refine ⟨_, rfl, ?_, HB1.out⟩
      have := HO1.out
      rw [digP_all] at this
      exact this
end Go.Proofs.Ytjmbdoiibchokaa
