import Derived.Test.YteongcihannldaaJ1
import Derived.Laws.CopyRow
import Derived.Deep.RegionLaw
import Derived.Shelf.RegionOpenPlain
import Derived.Test.YteongcihannldaaProg
import Derived.Lib.Bytealg
import Derived.Lib.UnsafeStr
import Derived.Lib.BufferWrite
import Derived.Laws.MakeOwn
import Derived.OwnWalk
import Derived.BigRegion
import Derived.BigQuiet
import Derived.Great.Walk
namespace Go.Proofs.Yteongcihannldaa
open Go Go.Lib Go.RowKit
set_option maxRecDepth 20000

/-! Structs that no slice is made of, in memory. -/
/-- A struct that no slice is made of. -/
structure Ag where
  elem : TypeId
  size : Nat
structure Ag.Ok (E : Ag) : Prop where
  hu : ∃ d, Try.prog.underlying E.elem = some d ∧ (match d with | .struct _ | .array _ _ => true | _ => false) = true
  hi : (Try.prog.info? E.elem).map (fun i => i.size) = some E.size
theorem Ag.Ok.load {E : Ag} (H : E.Ok) (w : World) (g off : Nat) (cur : Array Value) (t : TypeId) (fr : Nat × Nat) (cs : Array Value) (hcs : cs.size = E.size) (hg : w.heap[g]? = some (.cells cur t fr)) (hc : ∀ j, j < E.size → cur[off + j]? = cs[j]?) :
    (loadVar E.elem ⟨g, off, none⟩).run Try.prog w = .ok (.agg cs) w := by
  have hl : (loadCells ⟨g, off, none⟩ cs.toList.length).run Try.prog w = .ok cs.toList.toArray w :=
    run_loadCells_list (P := Try.prog) w ⟨g, off, none⟩ cs.toList (fun j v hv => by
      have hadd : (⟨g, off, none⟩ : Addr).add j = ⟨g, off + j, none⟩ := by unfold Addr.add; split <;> simp_all
      have hj : j < E.size := by
        have := (List.getElem?_eq_some_iff.1 hv).1
        rw [Array.length_toList] at this
        omega
      rw [hadd, cell_of_row w g (off + j) cur t fr hg, hc j hj]
      simpa using hv)
  obtain ⟨i, hq, hs⟩ : ∃ i, Try.prog.info? E.elem = some i ∧ i.size = E.size := by
    have h1 := H.hi
    cases h : Try.prog.info? E.elem with
    | none => rw [h] at h1; simp at h1
    | some i => rw [h] at h1; exact ⟨i, rfl, by simpa using h1⟩
  have hagg : (isAgg E.elem).run Try.prog w = .ok true w := by
    obtain ⟨d, hd, hm⟩ := H.hu
    unfold isAgg
    rw [Sem.run_bind, run_underlying hd w]
    revert hm
    cases d <;> simp [go_sem]
  rw [Array.length_toList, hcs, Array.toArray_toList] at hl
  simp [loadVar, Sem.run_bind, hagg, sizeOf, typeInfo, hq, hs, hl]
theorem wl_loadA {E : Ag} (H : E.Ok) {ops : Array Oper} {rest : List Oper} {o : Oper} {a : Act} {w : World} {Q : Exit → Act → World → Prop} (hw : Region.wanted o (yielded ops a.tmps) = true) (x : Operand) (ho : o.op = .load E.elem x)
    (g off : Nat) (hx : a.eval x = .pointer (some ⟨g, off, none⟩)) (cur : Array Value) (t : TypeId) (fr : Nat × Nat) (cs : Array Value) (hcs : cs.size = E.size) (hg : w.heap[g]? = some (.cells cur t fr)) (hc : ∀ j, j < E.size → cur[off + j]? = cs[j]?)
    (h : wpList Try.prog ops Q rest (a.put o.dst (.agg cs)) w) : wpList Try.prog ops Q (o :: rest) a w := by
  refine wpList_step fun K hK => ?_
  rw [if_pos hw]
  unfold Oper.wp execOp
  simp only [ho, hx, Instr.loadAt, Instr.sureAddr, Sem.run_bind, Sem.run_pure, Result.andThen_ok, H.load w g off cur t fr cs hcs hg hc]
  exact hK _ _ h
theorem wl_storeA {E : Ag} (H : E.Ok) {ops : Array Oper} {rest : List Oper} {o : Oper} {a : Act} {w : World} {Q : Exit → Act → World → Prop} (hgd : o.guard = none) (x y : Operand) (ho : o.op = .store E.elem x y)
    (g : Nat) (cs : Array Value) (hf : cs.size = E.size ∧ cs.all (·.oneCell') = true) (hx : a.eval x = .pointer (some ⟨g, 0, none⟩)) (hy : a.eval y = .agg cs) (old : Array Value) (hg : w.heap[g]? = some (.cells old E.elem (0, 0))) (hold : old.size = E.size)
    (w' : World) (hw' : w.setRow g cs = w')
    (h : wpList Try.prog ops Q rest (a.put o.dst undef) w') : wpList Try.prog ops Q (o :: rest) a w :=
  wpList_store_row hgd E.elem x y ho g cs hx hy E.elem old hg (by rw [hf.1]; exact H.hi) (by rw [hf.1, hold]) hf.2 (by rw [hw']; exact h)
theorem retA14 {E : Ag} (H : E.Ok) {fn : Func} {R : Ending → World → Prop} {a : Act} {w : World} {p : Tmp} (hr : fn.results = #[.cell p E.elem]) (hd : a.defers = []) (g : Nat) (hp : a.tmps.getD p undef = .pointer (some ⟨g, 0, none⟩)) (cs : Array Value) (hcs : cs.size = E.size)
    (hg : w.heap[g]? = some (.cells cs E.elem (0, 0))) (h : R (.returned (.agg cs)) w) : bodyPost Try.prog fn R .ret a w := by
  refine bodyPost_ret (v := .agg cs) ?_ hd h
  rw [Array.getD_eq_getD_getElem?] at hp
  have hl := H.load w g 0 cs E.elem (0, 0) cs hcs hg (own_cells _ _)
  simp [results, hr, hp, asAddr, hl]
/-- A struct that is stored within a block, from a place on. -/
theorem Ag.Ok.store {E : Ag} (H : E.Ok) (w : World) (g off : Nat) (cur : Array Value) (t : TypeId) (cs : Array Value) (hf : cs.size = E.size ∧ cs.all (·.oneCell') = true) (hg : w.heap[g]? = some (.cells cur t (0, 0))) (hs : off + E.size ≤ cur.size) :
    (storeVar E.elem ⟨g, off, none⟩ (.agg cs)).run Try.prog w = .ok () (w.setRow g (cur.toList.take off ++ cs.toList ++ cur.toList.drop (off + E.size)).toArray) := by
  have hst := run_storeCells_at Try.prog g off t cs.toList 0 cur w hg (by rw [Array.length_toList, hf.1]; omega) (fun v hv => by
    have h1 := Array.all_eq_true_iff_forall_mem.1 hf.2 v (by simpa using hv)
    exact h1)
  obtain ⟨i, hq, hz⟩ : ∃ i, Try.prog.info? E.elem = some i ∧ i.size = E.size := by
    have h1 := H.hi
    cases h : Try.prog.info? E.elem with
    | none => rw [h] at h1; simp at h1
    | some i => rw [h] at h1; exact ⟨i, rfl, by simpa using h1⟩
  rw [Nat.add_zero, Array.length_toList, hf.1] at hst
  simp [storeVar, sizeOf, typeInfo, hq, Value.cells, hz, hf.1]
  simpa using hst
theorem wl_storeAP {E : Ag} (H : E.Ok) {ops : Array Oper} {rest : List Oper} {o : Oper} {a : Act} {w : World} {Q : Exit → Act → World → Prop} (hgd : o.guard = none) (x y : Operand) (ho : o.op = .store E.elem x y)
    (g off : Nat) (hx : a.eval x = .pointer (some ⟨g, off, none⟩)) (cs : Array Value) (hf : cs.size = E.size ∧ cs.all (·.oneCell') = true) (hy : a.eval y = .agg cs) (cur : Array Value) (t : TypeId) (hg : w.heap[g]? = some (.cells cur t (0, 0))) (hs : off + E.size ≤ cur.size)
    (cs' : Array Value) (hcs' : (cur.toList.take off ++ cs.toList ++ cur.toList.drop (off + E.size)).toArray = cs')
    (h : wpList Try.prog ops Q rest (a.put o.dst undef) (w.setRow g cs')) : wpList Try.prog ops Q (o :: rest) a w :=
  wpList_plain hgd fun _ hK => by
    unfold Oper.wp execOp
    simp only [ho, hx, hy, Instr.storeAt, Instr.sureAddr, Sem.run_bind, Sem.run_pure, Result.andThen_ok, H.store w g off cur t cs hf hg hs, hcs']
    exact hK _ _ h
end Go.Proofs.Yteongcihannldaa
namespace Go.Proofs.Yteongcihannldaa
open Go Go.RowKit
set_option maxRecDepth 20000

theorem wl_minI {ops : Array Oper} {rest : List Oper} {o : Oper} {a : Act} {w : World} {Q : Exit → Act → World → Prop} (hgd : o.guard = none) (x y : Operand) (ho : o.op = .call { callee := .builtin .min, args := #[x, y], argTypes := #[3, 3] })
    (p q r : Int) (hx : a.eval x = .int .i64 p) (hy : a.eval y = .int .i64 q) (hr : r = min p q) (h : wpList Try.prog ops Q rest (a.put o.dst (.int .i64 r)) w) : wpList Try.prog ops Q (o :: rest) a w := by
  obtain ⟨dst, op, ty, pos, after, guard⟩ := o
  subst ho
  have hr : (execOp a.eval ⟨dst, .call { callee := .builtin .min, args := #[x, y], argTypes := #[3, 3] }, ty, pos, after, guard⟩).run Try.prog w = .ok (.value (.int .i64 r)) w := by
    subst hr
    by_cases h1 : p ≤ q
    · rw [show min p q = p by omega]
      unfold execOp
      simp [resolve, invoke, builtin, hx, hy, Builtin.min_, Builtin.min2]
      all_goals omega
    · rw [show min p q = q by omega]
      unfold execOp
      simp [resolve, invoke, builtin, hx, hy, Builtin.min_, Builtin.min2]
      all_goals omega
  refine wpList_plain hgd fun K hK => ?_
  unfold Oper.wp
  rw [hr]
  exact hK _ _ h
theorem wl_maxI {ops : Array Oper} {rest : List Oper} {o : Oper} {a : Act} {w : World} {Q : Exit → Act → World → Prop} (hgd : o.guard = none) (x y : Operand) (ho : o.op = .call { callee := .builtin .max, args := #[x, y], argTypes := #[3, 3] })
    (p q r : Int) (hx : a.eval x = .int .i64 p) (hy : a.eval y = .int .i64 q) (hr : r = max p q) (h : wpList Try.prog ops Q rest (a.put o.dst (.int .i64 r)) w) : wpList Try.prog ops Q (o :: rest) a w := by
  obtain ⟨dst, op, ty, pos, after, guard⟩ := o
  subst ho
  have hr : (execOp a.eval ⟨dst, .call { callee := .builtin .max, args := #[x, y], argTypes := #[3, 3] }, ty, pos, after, guard⟩).run Try.prog w = .ok (.value (.int .i64 r)) w := by
    subst hr
    by_cases h1 : q ≤ p
    · rw [show max p q = p by omega]
      unfold execOp
      simp [resolve, invoke, builtin, hx, hy, Builtin.max_, Builtin.max2]
      all_goals omega
    · rw [show max p q = q by omega]
      unfold execOp
      simp [resolve, invoke, builtin, hx, hy, Builtin.max_, Builtin.max2]
      all_goals omega
  refine wpList_plain hgd fun K hK => ?_
  unfold Oper.wp
  rw [hr]
  exact hK _ _ h
end Go.Proofs.Yteongcihannldaa
namespace Go.Proofs.Yteongcihannldaa
open Go Go.RowKit
set_option maxRecDepth 20000

/-! Steps of drawn regions, for go_region_law_o. -/
/-- A call, as a step of a drawn region. -/
theorem step_call {ops : Array Oper} {o : Oper} {a : Act} {w : World} {K : Act → World → Prop} {Q : Exit → Act → World → Prop} {R : Prop} (hgd : o.guard = none) (f : FuncId) (xs : Array Operand)
    (hf : ∀ (b : Act) (w : World), (execOp b.eval o).run Try.prog w = .ok (.enter f (xs.map b.eval)) w) (vs : Array Value) (hvs : xs.toList.map a.eval = vs.toList)
    (D : Ending → World → Prop) (h : Calls Try.prog f vs w D) (hD : ∀ e w', D e w' → ∃ v, e = .returned v) (hK : ∀ v w', D (.returned v) w' → K (a.put o.dst v) w') :
    if Region.wanted o (yielded ops a.tmps) = true then Oper.wp Try.prog o a w K Q else R := by
  have hw : Region.wanted o (yielded ops a.tmps) = true := by simp [Region.wanted, hgd]
  rw [if_pos hw]
  unfold Oper.wp
  rw [hf a w, show xs.map a.eval = vs from Array.ext' (by rw [Array.toList_map]; exact hvs)]
  refine h.mono ?_
  intro e w' hd
  obtain ⟨v, rfl⟩ := hD e w' hd
  exact hK v w' hd
/-- One element appended to one's own row of them. -/
theorem step_appE {E : El} (H : E.Ok) {α : Type} (enc : α → Array Value) {ops : Array Oper} {o : Oper} {a : Act} {w : World} {K : Act → World → Prop} {Q : Exit → Act → World → Prop} {R : Prop} (hgd : o.guard = none) (s x : Operand) (ho : o.op = .call { callee := .builtin .append, args := #[s, x], argTypes := #[E.slice, E.slice] })
    (B : Nat) (v : Value) (C : List α) (c : α) (hf : Fits E (enc c)) (hs : a.eval s = v) (hown : w.ownsRow B E.elem E.size v C.length (gcells enc C)) (g cap : Nat) (hx : a.eval x = .slice (some ⟨g, 0, none⟩) 1 cap) (hg : w.heap[g]? = some (.cells (enc c) E.elem (0, 0)))
    (hn : C.length ≤ 1000000) (hB : B ≤ w.heap.size)
    (hK : ∀ v' w', w'.ownsRow B E.elem E.size v' (C ++ [c]).length (gcells enc (C ++ [c])) → w.grownBy w' v.ownBlock → (v'.ownBlock = v.ownBlock ∨ v'.ownBlock = some w.heap.size) → K (a.put o.dst v') w') :
    if Region.wanted o (yielded ops a.tmps) = true then Oper.wp Try.prog o a w K Q else R := by
  have hw : Region.wanted o (yielded ops a.tmps) = true := by simp [Region.wanted, hgd]
  rw [if_pos hw]
  obtain ⟨i0, hi, hz0, hz1, hz2⟩ := H.info
  have hb := H.hb
  obtain ⟨v', w', h1, h2, h3, _, h5⟩ := run_append_own_at (P := Try.prog) w B E.slice o.type E.elem i0 (.agg E.zero) E.size E.bytes H.hs hi hz0 hz1 hz2 (by simpa [Value.cells] using H.hz) H.hp v _ _ hown ⟨g, 0, none⟩ 1 cap (enc c).toList (by rw [Array.length_toList, hf.1, Nat.one_mul]) (fun j y hy => by
    have hadd : (⟨g, 0, none⟩ : Addr).add j = ⟨g, j, none⟩ := by unfold Addr.add; split <;> simp_all
    rw [hadd, cell_of_row w g j _ _ _ hg, ← hy]
    simp) (fun u hu => (Array.all_eq_true_iff_forall_mem.1 hf.2) u (by simpa using hu)) (by unfold maxLen; omega) (Nat.le_trans (Nat.mul_le_mul (show C.length + 1 ≤ 1000001 by omega) hb) (by decide)) hB
  unfold Oper.wp execOp
  simp only [ho, resolve, invoke, builtin, Sem.run_bind, Sem.run_pure, Result.andThen_ok, List.map_toArray, List.map_cons, List.map_nil, hs, hx, h1]
  exact hK v' w' (by rw [List.length_append, gcells_append, gcells_one]; exact h2) h3 h5
end Go.Proofs.Yteongcihannldaa
namespace Go.Proofs.Yteongcihannldaa
open Go
set_option maxRecDepth 20000

/-- A token. -/
structure Tok where
  kind : Nat
  pos : Nat
  text : List UInt8
  num : Nat

end Go.Proofs.Yteongcihannldaa
namespace Go.Proofs.Yteongcihannldaa
open Go Go.RowKit
set_option maxRecDepth 20000

end Go.Proofs.Yteongcihannldaa
namespace Go.Proofs.Yteongcihannldaa
open Go Go.RowKit
set_option maxRecDepth 20000

/-- Where a walk stands still. -/
def StopT (p : Prop) : Prop := p
theorem of_stopT {p : Prop} (h : StopT p) : p := h
end Go.Proofs.Yteongcihannldaa
namespace Go.Proofs.Yteongcihannldaa
open Go Go.RowKit
set_option maxRecDepth 20000

/-! What is known of switches, in memory. -/
structure KnB where
  inc : Int
  heard : Int
  use : Int
  ib : Nat
  lb : Nat
def knV (x : KnB) : Array Value := #[.int .i64 x.inc, .int .i64 x.heard, .int .i64 x.use, .map (some x.ib), .map (some x.lb)]
def zeroKn : Array Value := #[.int .i64 0, .int .i64 0, .int .i64 0, .map none, .map none]
def KnE : El := ⟨51, 46, 5, 40, zeroKn⟩
theorem KnOk : KnE.Ok := ⟨Try.underlying46, ⟨_, Try.underlying51, rfl⟩, by kernel_rfl, rfl, by decide, by decide, by decide⟩
def KnG : Ag := ⟨51, 5⟩
theorem KnGOk : KnG.Ok := ⟨⟨_, Try.underlying51, rfl⟩, by kernel_rfl⟩
theorem kn_fits (x : KnB) : Fits KnE (knV x) := ⟨rfl, by simp [knV, Value.oneCell']⟩
structure SwV (w : World) (x : KnB) (m : SwM) (N : Nat) : Prop where
  inc : x.inc = m.life
  heard : x.heard = m.heard
  use : x.use = m.use
  items : ∃ f, MapV w x.ib N f ∧ ∀ k, WfI k → (f k).getD 0 = m.have_ k
  leads : MapV w x.lb N m.led
theorem SwV.kept {X : Nat → Prop} {w w' : World} {x : KnB} {m : SwM} {N N' : Nat} (h : SwV w x m N) (hk : Kept X w w') (h1 : ¬ X x.ib) (h2 : ¬ X x.lb) (hn : N ≤ N') : SwV w' x m N' := by
  obtain ⟨f, q1, q2⟩ := h.items
  exact ⟨h.inc, h.heard, h.use, ⟨f, (q1.kept hk h1).mono hn, q2⟩, (h.leads.kept hk h2).mono hn⟩
structure RollV (B : Nat) (w : World) (g : Nat) (v : Value) (C : List KnB) (R : RollM) (N : Nat) : Prop where
  blk : w.heap[g]? = some (.cells #[v] 48 (0, 0))
  row : w.ownsRow B 51 5 v C.length (gcells knV C)
  len : (C.length : Int) = R.count
  sws : ∀ (i : Nat) x, C[i]? = some x → SwV w x (R.sw (i + 1)) N
  lo : ∀ (i : Nat) x, C[i]? = some x → B ≤ x.ib ∧ B ≤ x.lb ∧ x.ib ≠ x.lb
  ap : ∀ (i j : Nat) x y, C[i]? = some x → C[j]? = some y → i ≠ j → x.ib ≠ y.ib ∧ x.ib ≠ y.lb ∧ x.lb ≠ y.ib ∧ x.lb ≠ y.lb
  hB : B ≤ g
def footR (g : Nat) (v : Value) (C : List KnB) (k : Nat) : Prop := k = g ∨ v.ownBlock = some k ∨ ∃ (i : Nat) (x : KnB), C[i]? = some x ∧ (k = x.ib ∨ k = x.lb)
theorem RollV.foot_in {B : Nat} {w : World} {g : Nat} {v : Value} {C : List KnB} {R : RollM} {N : Nat} (h : RollV B w g v C R N) : ∀ k, footR g v C k → B ≤ k ∧ k < w.heap.size := by
  rintro k (rfl | e | ⟨i, x, hx, rfl | rfl⟩)
  · exact ⟨h.hB, (Array.getElem?_eq_some_iff.1 h.blk).1⟩
  · exact World.ownsRow.lt h.row k e
  · obtain ⟨f, q, _⟩ := (h.sws i x hx).items
    exact ⟨(h.lo i x hx).1, q.lt⟩
  · exact ⟨(h.lo i x hx).2.1, (h.sws i x hx).leads.lt⟩
theorem RollV.kept {X : Nat → Prop} {B : Nat} {w w' : World} {g : Nat} {v : Value} {C : List KnB} {R : RollM} {N N' : Nat} (h : RollV B w g v C R N) (hk : Kept X w w') (hX : ∀ k, footR g v C k → ¬ X k) (hn : N ≤ N') : RollV B w' g v C R N' :=
  ⟨hk.heap h.blk (hX _ (.inl rfl)), hk.own h.row (fun k e => hX k (.inr (.inl e))), h.len, fun i x hx => (h.sws i x hx).kept hk (hX _ (.inr (.inr ⟨i, x, hx, .inl rfl⟩))) (hX _ (.inr (.inr ⟨i, x, hx, .inr rfl⟩))) hn, h.lo, h.ap, h.hB⟩
theorem RollV.below {B : Nat} {w w' : World} {g : Nat} {v : Value} {C : List KnB} {R : RollM} {N : Nat} (h : RollV B w g v C R N) (hb : Below w.heap.size w w') : RollV B w' g v C R N := h.kept (X := fun _ => False) (Kept.of_below hb) (fun _ _ e => e) (Nat.le_refl _)
theorem RollV.mono {B : Nat} {w : World} {g : Nat} {v : Value} {C : List KnB} {R : RollM} {N N' : Nat} (h : RollV B w g v C R N) (hn : N ≤ N') : RollV B w g v C R N' := h.kept (Kept.refl (fun _ => False) _) (fun _ _ e => e) hn
theorem RollV.hw {B : Nat} {w : World} {g : Nat} {v : Value} {C : List KnB} {R : RollM} {N : Nat} (h : RollV B w g v C R N) : B ≤ w.heap.size := by have := h.foot_in g (.inl rfl); omega
theorem RollV.gne {B : Nat} {w : World} {g : Nat} {v : Value} {C : List KnB} {R : RollM} {N : Nat} (h : RollV B w g v C R N) : v.ownBlock ≠ some g := by
  intro q
  obtain ⟨_, ⟨e, _⟩ | ⟨g', cap, cur, e, _, h1, _⟩⟩ := h.row
  · rw [e] at q; cases q
  · rw [e] at q
    simp only [Value.ownBlock, Option.some.injEq] at q
    subst q
    have h2 := h.blk
    rw [h1] at h2
    simp only [Option.some.injEq, Obj.cells.injEq] at h2
    exact absurd h2.2.1 (by decide)
/-- One switch has turned. -/
theorem RollV.upd {B : Nat} {w w' : World} {g : Nat} {v : Value} {C : List KnB} {R : RollM} {N N' : Nat} (h : RollV B w g v C R N) {i : Nat} {x : KnB} (hx : C[i]? = some x) (y : KnB) (m' : SwM) (hn : N ≤ N')
    (hk : Kept (fun k => v.ownBlock = some k ∨ k = x.ib ∨ k = x.lb) w w') (hrow : w'.ownsRow B 51 5 v C.length (gcells knV (C.set i y))) (hsw : SwV w' y m' N')
    (hi : y.ib = x.ib ∨ w.heap.size ≤ y.ib) (hl : y.lb = x.lb ∨ w.heap.size ≤ y.lb) (hd : y.ib ≠ y.lb) : RollV B w' g v (C.set i y) (setR R (i + 1) m') N' ∧ Frm (footR g v C) (footR g v (C.set i y)) w w' := by
  have hil : i < C.length := (List.getElem?_eq_some_iff.1 hx).1
  have hat : ∀ (j : Nat) z, (C.set i y)[j]? = some z → (j = i ∧ z = y) ∨ (j ≠ i ∧ C[j]? = some z) := fun j z hz => by
    by_cases e : i = j
    · subst e
      rw [List.getElem?_set_self hil] at hz
      exact .inl ⟨rfl, (Option.some.inj hz).symm⟩
    · rw [List.getElem?_set_ne e] at hz
      exact .inr ⟨fun q => e q.symm, hz⟩
  have hw := h.hw
  have lox := h.lo i x hx
  have hfr : ∀ (j : Nat) z, C[j]? = some z → z.ib < w.heap.size ∧ z.lb < w.heap.size := fun j z hz => by
    obtain ⟨f, q, _⟩ := (h.sws j z hz).items
    exact ⟨q.lt, (h.sws j z hz).leads.lt⟩
  have hfx := hfr i x hx
  refine ⟨⟨hk.heap h.blk ?_, by rw [List.length_set]; exact hrow, by rw [List.length_set]; exact h.len, fun j z hz => ?_, fun j z hz => ?_, fun j k z u hz hu hne => ?_, h.hB⟩, hk.mono fun k _ e => ?_, fun k e => ?_⟩
  · rintro (e | e | e)
    · exact h.gne e
    · obtain ⟨f, q, _⟩ := (h.sws i x hx).items
      exact q.ne h.blk e.symm
    · exact (h.sws i x hx).leads.ne h.blk e.symm
  · rcases hat j z hz with ⟨rfl, rfl⟩ | ⟨hj, hz'⟩
    · have := set_at R ((j : Int) + 1) m'
      rw [this]
      exact hsw
    · rw [set_other R ((i : Int) + 1) m' (by omega)]
      have hs := h.sws j z hz'
      obtain ⟨f, q, _⟩ := hs.items
      have a1 := h.ap j i z x hz' hx hj
      refine hs.kept hk ?_ ?_ hn
      · rintro (e | e | e)
        · exact q.row h.row e
        · exact a1.1 e
        · exact a1.2.1 e
      · rintro (e | e | e)
        · exact hs.leads.row h.row e
        · exact a1.2.2.1 e
        · exact a1.2.2.2 e
  · rcases hat j z hz with ⟨rfl, rfl⟩ | ⟨hj, hz'⟩
    · refine ⟨?_, ?_, hd⟩
      · rcases hi with e | e
        · rw [e]; exact lox.1
        · omega
      · rcases hl with e | e
        · rw [e]; exact lox.2.1
        · omega
    · exact h.lo j z hz'
  · rcases hat j z hz with ⟨rfl, rfl⟩ | ⟨hj, hz'⟩
    · rcases hat k u hu with ⟨rfl, rfl⟩ | ⟨hk2, hu'⟩
      · exact absurd rfl hne
      · have a1 := h.ap j k x u hx hu' hne
        have a2 := hfr k u hu'
        omega
    · rcases hat k u hu with ⟨rfl, rfl⟩ | ⟨hk2, hu'⟩
      · have a1 := h.ap j k z x hz' hx hne
        have a2 := hfr j z hz'
        omega
      · exact h.ap j k z u hz' hu' hne
  · rcases e with e | e | e
    · exact .inr (.inl e)
    · exact .inr (.inr ⟨i, x, hx, .inl e⟩)
    · exact .inr (.inr ⟨i, x, hx, .inr e⟩)
  · rcases e with e | e | ⟨j, z, hz, e⟩
    · exact .inl (.inl e)
    · exact .inl (.inr (.inl e))
    · rcases hat j z hz with ⟨rfl, rfl⟩ | ⟨hj, hz'⟩
      · rcases e with e | e
        · rcases hi with q | q
          · exact .inl (.inr (.inr ⟨j, x, hx, .inl (by rw [e, q])⟩))
          · exact .inr (by rw [e]; exact q)
        · rcases hl with q | q
          · exact .inl (.inr (.inr ⟨j, x, hx, .inr (by rw [e, q])⟩))
          · exact .inr (by rw [e]; exact q)
      · exact .inl (.inr (.inr ⟨j, z, hz', e⟩))
def RollTo (B : Nat) (w w' : World) (g : Nat) (v : Value) (C : List KnB) (R' : RollM) (N : Nat) : Prop := ∃ C', RollV B w' g v C' R' N ∧ Frm (footR g v C) (footR g v C') w w'
theorem RollV.stay {B : Nat} {w w' : World} {g : Nat} {v : Value} {C : List KnB} {R : RollM} {N N' : Nat} (h : RollV B w g v C R N) (hb : Below w.heap.size w w') (hn : N ≤ N') : RollTo B w w' g v C R N' := ⟨C, (h.below hb).mono hn, Frm.of_below hb⟩
theorem RollTo.pre {B : Nat} {w w1 w2 : World} {g : Nat} {v : Value} {C : List KnB} {R' : RollM} {N : Nat} (hb : Below w.heap.size w w1) (h : RollTo B w1 w2 g v C R' N) : RollTo B w w2 g v C R' N := by
  obtain ⟨C', h1, h2⟩ := h
  exact ⟨C', h1, h2.pre hb⟩
theorem RollTo.trans {B : Nat} {w w1 w2 : World} {g : Nat} {v : Value} {C : List KnB} {R1 R2 : RollM} {N N2 : Nat} (h : RollTo B w w1 g v C R1 N) (hn : ∀ C1, RollV B w1 g v C1 R1 N → RollTo B w1 w2 g v C1 R2 N2) : RollTo B w w2 g v C R2 N2 := by
  obtain ⟨C1, h1, h2⟩ := h
  obtain ⟨C2, h3, h4⟩ := hn C1 h1
  exact ⟨C2, h3, h2.trans h4⟩
theorem RollTo.belowW {B0 B : Nat} {w w' : World} {g : Nat} {v : Value} {C : List KnB} {R' : RollM} {N : Nat} (h : RollTo B w w' g v C R' N) (hf : ∀ k, footR g v C k → B0 ≤ k) (hB : B0 ≤ w.heap.size) : Below B0 w w' := by
  obtain ⟨C', _, h2⟩ := h
  exact h2.kept.below hf hB
/-- The fields of a switch. -/
structure KnF (w : World) (p off : Nat) (x : KnB) : Prop where
  c0 : w.cell? ⟨p, off, none⟩ = some (.int .i64 x.inc)
  c1 : w.cell? ⟨p, off + 1, none⟩ = some (.int .i64 x.heard)
  c2 : w.cell? ⟨p, off + 2, none⟩ = some (.int .i64 x.use)
  c3 : w.cell? ⟨p, off + 3, none⟩ = some (.map (some x.ib))
  c4 : w.cell? ⟨p, off + 4, none⟩ = some (.map (some x.lb))
  fz : ∀ k, w.frozen? ⟨p, k, none⟩ = false
theorem knf_of {w : World} {p off : Nat} {cur : Array Value} {ty : TypeId} {x : KnB} (hg : w.heap[p]? = some (.cells cur ty (0, 0))) (hc : ∀ j, j < 5 → cur[off + j]? = (knV x)[j]?) : KnF w p off x :=
  ⟨by rw [cell_of_row w p off cur ty _ hg]; exact hc 0 (by decide), by rw [cell_of_row w p (off + 1) cur ty _ hg]; exact hc 1 (by decide), by rw [cell_of_row w p (off + 2) cur ty _ hg]; exact hc 2 (by decide), by rw [cell_of_row w p (off + 3) cur ty _ hg]; exact hc 3 (by decide), by rw [cell_of_row w p (off + 4) cur ty _ hg]; exact hc 4 (by decide), fun k => by simp [World.frozen?, hg]⟩
/-- Where a switch lies. -/
theorem RollV.at {B : Nat} {w : World} {g : Nat} {v : Value} {C : List KnB} {R : RollM} {N : Nat} (h : RollV B w g v C R N) {i : Nat} {x : KnB} (hx : C[i]? = some x) : ∃ p cap cur, v = .slice (some ⟨p, 0, none⟩) C.length cap ∧ C.length ≤ cap ∧ cap ≤ maxLen ∧ w.heap[p]? = some (.cells cur 51 (0, 0)) ∧ i * 5 + 5 ≤ cur.size ∧ (∀ j, j < 5 → cur[i * 5 + j]? = (knV x)[j]?) ∧ cur.toList.take (C.length * 5) = gcells knV C ∧ cur.size = cap * 5 ∧ B ≤ p := by
  have hil : i < C.length := (List.getElem?_eq_some_iff.1 hx).1
  have hxi : C[i] = x := (List.getElem?_eq_some_iff.1 hx).2
  obtain ⟨_, ⟨_, e⟩ | ⟨p, cap, cur, e, hb, h1, h2, h3, h4, h5⟩⟩ := h.row
  · omega
  · refine ⟨p, cap, cur, e, h2, h3, h1, by omega, fun j hj => ?_, h5, h4, hb⟩
    have e1 := gcells_at knV 5 C (fun _ _ => rfl) i hil j hj
    rw [hxi, ← h5, List.getElem?_take_of_lt (by omega), Array.getElem?_toList] at e1
    rw [← e1]
    congr 1
    omega
theorem RollV.kn {B : Nat} {w : World} {g : Nat} {v : Value} {C : List KnB} {R : RollM} {N : Nat} (h : RollV B w g v C R N) {i : Nat} {x : KnB} (hx : C[i]? = some x) : ∃ p cap, v = .slice (some ⟨p, 0, none⟩) C.length cap ∧ C.length ≤ cap ∧ cap ≤ maxLen ∧ KnF w p (i * 5) x := by
  obtain ⟨p, cap, cur, e, h1, h2, h3, h4, h5, _⟩ := h.at hx
  exact ⟨p, cap, e, h1, h2, knf_of h3 h5⟩
theorem gcells_setN {α : Type} (enc : α → Array Value) (n : Nat) : ∀ (C : List α), (∀ c ∈ C, (enc c).size = n) → ∀ (i : Nat) (y : α), i < C.length → (gcells enc C).take (i * n) ++ (enc y).toList ++ (gcells enc C).drop (i * n + n) = gcells enc (C.set i y)
  | [], _, i, y, h => absurd h (by simp)
  | c :: C, hC, 0, y, h => by
    have h1 := hC c (by simp)
    rw [List.set_cons_zero, gcells_cons, gcells_cons, Nat.zero_mul, List.take_zero, List.nil_append, Nat.zero_add]
    congr 1
    rw [← h1, ← Array.length_toList, List.drop_left]
  | c :: C, hC, i + 1, y, h => by
    have h1 := hC c (by simp)
    have ih := gcells_setN enc n C (fun d hd => hC d (by simp [hd])) i y (by simpa using h)
    have e : (i + 1) * n = (enc c).toList.length + i * n := by rw [Array.length_toList, h1, Nat.add_mul, Nat.one_mul, Nat.add_comm]
    have e2 : (i + 1) * n + n = (enc c).toList.length + (i * n + n) := by omega
    rw [List.set_cons_succ, gcells_cons, gcells_cons, ← ih, e2, List.drop_length_add_append, e, List.take_length_add_append]
    simp only [List.append_assoc]
end Go.Proofs.Yteongcihannldaa
namespace Go.Proofs.Yteongcihannldaa
open Go Go.RowKit
set_option maxRecDepth 20000

theorem bounded_any (w : World) (now : Int) : Calls Try.prog 36 #[.int .i64 now] w fun e w' => e = .returned (.int .i64 (clockR now)) ∧ w' = w := by
  obtain ⟨m, hm⟩ : ∃ m, m = max now 0 := ⟨_, rfl⟩
  obtain ⟨c, hc⟩ : ∃ c, c = min m 1099511627776 := ⟨_, rfl⟩
  have HM : Hid (m = max now 0) := hm
  have HC : Hid (c = min m 1099511627776) := hc
  have E : clockR now = c := by unfold clockR; rw [hc, hm]
  rw [E]
  clear E hm hc
  go_enter Try.func36, Try.ntmps36
  go_wp2_with (first
    | (refine wl_maxI rfl (.tmp 3) _ rfl now 0 m rfl rfl HM.out ?_)
    | (refine wl_minI rfl (.tmp 4) _ rfl m 1099511627776 c rfl rfl HC.out ?_))
  go_ret
  exact ⟨rfl, rfl⟩
theorem of_nil (w : World) (s : Int) : Calls Try.prog 35 #[.pointer none, .int .i64 s] w fun e w' => e = .returned (.pointer none) ∧ w' = w := by
  go_enter Try.func35, Try.ntmps35
  go_wp2_with fail
  go_ret
  exact ⟨rfl, rfl⟩
theorem of_no (w : World) (g : Nat) (s : Int) (o : Option Addr) (n c : Nat) (hg : w.cell? ⟨g, 0, none⟩ = some (.slice o n c)) (h : ¬ (1 ≤ s ∧ s ≤ n)) : Calls Try.prog 35 #[.pointer (some ⟨g, 0, none⟩), .int .i64 s] w fun e w' => e = .returned (.pointer none) ∧ w' = w := by
  by_cases h1 : s < 1
  · clear h
    go_enter Try.func35, Try.ntmps35
    go_wp2_with fail
    go_ret
    exact ⟨rfl, rfl⟩
  · have h2 : s > (n : Int) := by omega
    clear h
    go_enter Try.func35, Try.ntmps35
    go_wp2_with fail
    go_ret
    exact ⟨rfl, rfl⟩
theorem of_yes (w : World) (g p n c i : Nat) (hg : w.cell? ⟨g, 0, none⟩ = some (.slice (some ⟨p, 0, none⟩) n c)) (hi : i < n) (hn : n ≤ c) (hc : c ≤ maxLen) : Calls Try.prog 35 #[.pointer (some ⟨g, 0, none⟩), .int .i64 ((i : Int) + 1)] w fun e w' => e = .returned (.pointer (some ⟨p, i * 5, none⟩)) ∧ w' = w := by
  have h1 : ¬ (i : Int) + 1 < 1 := by omega
  have h2 : ¬ (i : Int) + 1 > (n : Int) := by omega
  have h3 : (i : Int) + 1 - 1 = i := by omega
  unfold maxLen at hc
  go_enter Try.func35, Try.ntmps35
  go_wp2_with fail
  go_ret
  exact ⟨by simp, rfl⟩
end Go.Proofs.Yteongcihannldaa
namespace Go.Proofs.Yteongcihannldaa
open Go Go.RowKit
set_option maxRecDepth 20000

theorem RollV.cell0 {B : Nat} {w : World} {g : Nat} {v : Value} {C : List KnB} {R : RollM} {N : Nat} (h : RollV B w g v C R N) : w.cell? ⟨g, 0, none⟩ = some v := by
  rw [cell_of_row w g 0 _ _ _ h.blk]; rfl
/-- A switch that isn't there; one that is. -/
theorem RollV.ofs {B : Nat} {w : World} {g : Nat} {v : Value} {C : List KnB} {R : RollM} {N : Nat} (h : RollV B w g v C R N) (s : Int) :
    (isRl R s = false ∧ Calls Try.prog 35 #[.pointer (some ⟨g, 0, none⟩), .int .i64 s] w fun e w' => e = .returned (.pointer none) ∧ w' = w) ∨
    (isRl R s = true ∧ ∃ (i p : Nat) (x : KnB), s = (i : Int) + 1 ∧ C[i]? = some x ∧ v.ownBlock = some p ∧ KnF w p (i * 5) x ∧ SwV w x (R.sw s) N ∧ Calls Try.prog 35 #[.pointer (some ⟨g, 0, none⟩), .int .i64 s] w fun e w' => e = .returned (.pointer (some ⟨p, i * 5, none⟩)) ∧ w' = w) := by
  have hl := h.len
  obtain ⟨o, c, e⟩ := gown_slice h.row
  have h0 := h.cell0
  by_cases hs : 1 ≤ s ∧ s ≤ R.count
  · right
    refine ⟨by unfold isRl; simp [hs], ?_⟩
    obtain ⟨i, hi⟩ : ∃ i : Nat, s = (i : Int) + 1 := ⟨(s - 1).toNat, by omega⟩
    have hil : i < C.length := by omega
    have hx : C[i]? = some C[i] := List.getElem?_eq_getElem hil
    obtain ⟨p, cap, e2, h1, h2, h3⟩ := h.kn hx
    subst hi
    refine ⟨i, p, C[i], rfl, hx, by rw [e2]; rfl, h3, h.sws i _ hx, ?_⟩
    rw [e2] at h0
    exact of_yes w g p C.length cap i h0 hil h1 h2
  · left
    refine ⟨by unfold isRl; simp only [Bool.and_eq_false_iff, decide_eq_false_iff_not]; omega, ?_⟩
    rw [e] at h0
    exact of_no w g s o C.length c h0 (by omega)
theorem incR_no {R : RollM} {s : Int} (h : isRl R s = false) : incR R s = 0 := by unfold incR; rw [h]; rfl
theorem incR_yes {R : RollM} {s : Int} (h : isRl R s = true) : incR R s = (R.sw s).life := by unfold incR; rw [h]; rfl
theorem useR_no {R : RollM} {s : Int} (h : isRl R s = false) : useR R s = 0 := by unfold useR; rw [h]; rfl
theorem useR_yes {R : RollM} {s : Int} (h : isRl R s = true) : useR R s = (R.sw s).use := by unfold useR; rw [h]; rfl
theorem haveR_no {R : RollM} {s : Int} (h : isRl R s = false) (e : Int) : haveR R s e = 0 := by unfold haveR; rw [h]; rfl
theorem haveR_yes {R : RollM} {s : Int} (h : isRl R s = true) (e : Int) : haveR R s e = (R.sw s).have_ e := by unfold haveR; rw [h]; rfl
set_option maxHeartbeats 1000000 in
theorem inc_any (B : Nat) (w : World) (g : Nat) (v : Value) (C : List KnB) (R : RollM) (N : Nat) (h : RollV B w g v C R N) (s : Int) :
    Calls Try.prog 16 #[.pointer (some ⟨g, 0, none⟩), .int .i64 s] w fun e w' => e = .returned (.int .i64 (incR R s)) ∧ w' = w := by
  rcases h.ofs s with ⟨h1, h2⟩ | ⟨h1, i, p, x, rfl, hx, hp, hF, hS, h2⟩
  · rw [incR_no h1]
    clear h h1
    go_enter Try.func16, Try.ntmps16
    go_wp2_with (go_at_call 35; refine h2.mono ?_; rintro e w1 ⟨rfl, q⟩; subst q)
    go_ret
    exact ⟨rfl, rfl⟩
  · rw [incR_yes h1, ← hS.inc]
    have c0 := hF.c0
    obtain ⟨a, ha⟩ : ∃ a, a = x.inc := ⟨_, rfl⟩
    rw [← ha] at c0 ⊢
    clear h h1 hx hS hF hp ha
    go_enter Try.func16, Try.ntmps16
    go_wp2_with (go_at_call 35; refine h2.mono ?_; rintro e w1 ⟨rfl, q⟩; subst q)
    go_ret
    exact ⟨rfl, rfl⟩
set_option maxHeartbeats 1000000 in
theorem useRl_any (B : Nat) (w : World) (g : Nat) (v : Value) (C : List KnB) (R : RollM) (N : Nat) (h : RollV B w g v C R N) (s : Int) :
    Calls Try.prog 22 #[.pointer (some ⟨g, 0, none⟩), .int .i64 s] w fun e w' => e = .returned (.int .i64 (useR R s)) ∧ w' = w := by
  rcases h.ofs s with ⟨h1, h2⟩ | ⟨h1, i, p, x, rfl, hx, hp, hF, hS, h2⟩
  · rw [useR_no h1]
    clear h h1
    go_enter Try.func22, Try.ntmps22
    go_wp2_with (go_at_call 35; refine h2.mono ?_; rintro e w1 ⟨rfl, q⟩; subst q)
    go_ret
    exact ⟨rfl, rfl⟩
  · rw [useR_yes h1, ← hS.use]
    have c0 := hF.c2
    obtain ⟨a, ha⟩ : ∃ a, a = x.use := ⟨_, rfl⟩
    rw [← ha] at c0 ⊢
    clear h h1 hx hS hF hp ha
    go_enter Try.func22, Try.ntmps22
    go_wp2_with (go_at_call 35; refine h2.mono ?_; rintro e w1 ⟨rfl, q⟩; subst q)
    go_ret
    exact ⟨rfl, rfl⟩
set_option maxHeartbeats 1000000 in
theorem haveRl_any (B : Nat) (w : World) (g : Nat) (v : Value) (C : List KnB) (R : RollM) (N : Nat) (h : RollV B w g v C R N) (s e0 : Int) (he : WfI e0) :
    Calls Try.prog 20 #[.pointer (some ⟨g, 0, none⟩), .int .i64 s, .int .i64 e0] w fun e w' => e = .returned (.int .i64 (haveR R s e0)) ∧ w' = w := by
  rcases h.ofs s with ⟨h1, h2⟩ | ⟨h1, i, p, x, rfl, hx, hp, hF, hS, h2⟩
  · rw [haveR_no h1]
    clear h h1
    go_enter Try.func20, Try.ntmps20
    go_wp2_with (go_at_call 35; refine h2.mono ?_; rintro e w1 ⟨rfl, q⟩; subst q)
    go_ret
    exact ⟨rfl, rfl⟩
  · rw [haveR_yes h1]
    obtain ⟨f, q1, q2⟩ := hS.items
    have c0 := hF.c3
    rw [← q2 e0 he]
    obtain ⟨a, ha⟩ : ∃ a, a = x.ib := ⟨_, rfl⟩
    rw [← ha] at c0 q1
    have HM : Hid (MapV w a N f) := q1
    have HE : Hid (WfI e0) := he
    clear h h1 hx hS hF hp ha q1 q2 he
    go_enter Try.func20, Try.ntmps20
    go_wp2_with (first
      | (go_at_call 35; refine h2.mono ?_; rintro e w1 ⟨rfl, q⟩; subst q)
      | (at_lookup; refine wl_mapGet rfl _ _ rfl a N f e0 rfl rfl HM.out HE.out ?_))
    go_ret
    exact ⟨rfl, rfl⟩
end Go.Proofs.Yteongcihannldaa
namespace Go.Proofs.Yteongcihannldaa
open Go Go.RowKit
set_option maxRecDepth 20000

theorem same_key {j x : Int} : (Lit.int .i64 j).sameKey (.int .i64 x) = decide (j = x) := by
  by_cases e : j = x
  · subst e
    rw [decide_eq_true rfl]
    exact WideAt.sameKey_self (a := .int .i64 j) trivial
  · rw [decide_eq_false e]
    exact Maps.sameKey_ne (ne_key e)
/-- What has come. -/
theorem MapS.came {D : DataW Unit} {f : Int → Option Int} (h : MapS D f) {k c : Int} (hk : WfI k) (hat : ∀ zd, D.atKey (.int .i64 k) zd = .lit (.int .i64 c)) : f k = some c := by
  have h1 := Maps.has_true_of_atKey hat
  rw [h.has k hk] at h1
  obtain ⟨c', hc'⟩ := Option.isSome_iff_exists.1 h1
  have h2 := h.at_ k c' hk hc' .nil
  rw [hat .nil] at h2
  injection h2 with h2
  injection h2 with _ h2
  rw [hc', h2]
def lateO (f : Int → Option Int) (ep now lease : Int) (e : Int) : Prop := ∃ t, f e = some t ∧ e < ep ∧ now - t < lease
set_option maxHeartbeats 4000000 in
theorem over_any (w : World) (p off lb N : Nat) (f : Int → Option Int) (ep now lease : Int) (hc : w.cell? ⟨p, off + 4, none⟩ = some (.map (some lb))) (hm : MapV w lb N f) (hn : 0 ≤ now ∧ now ≤ 1099511627776) (hf : ∀ e t, f e = some t → 0 ≤ t ∧ t ≤ 1099511627776) :
    Calls Try.prog 38 #[.pointer (some ⟨p, off, none⟩), .int .i64 ep, .int .i64 now, .int .i64 lease] w fun e w' => ∃ b, e = .returned (.bool b) ∧ (b = true ↔ ∀ e, WfI e → ¬ lateO f ep now lease e) ∧ Below w.heap.size w w' := by
  obtain ⟨D, hown, hS⟩ := hm
  have HS : Hid (MapS D f) := hS
  have HF : Hid (∀ e t, f e = some t → 0 ≤ t ∧ t ≤ 1099511627776) := hf
  obtain ⟨n1, n2⟩ := hn
  clear hS hf
  go_enter Try.func38, Try.ntmps38
  go_wp2_with (first
    | (at_range; refine wpList_range_own _ rfl _ 49 rfl 3 3 law3 Try.underlying49 _ lb N _ rfl hown ?_; intro w0 hrg0 hg0 hs0)
    | go_in)
  go_frame
  have H0 : Hid (Below w.heap.size w w0) := ⟨hg0.os, hg0.tape, hg0.output, by omega, fun k hk => hg0.block k hk (by simp)⟩
  have HR0 : Hid (w0.ranges Try.prog 3 (plainElem Try.prog 3) lb w.heap.size N D (Maps.has D) (Maps.size D)) := hrg0
  clear hg0 hs0 hrg0 hown hc
  go_loopw [9] (fun _ wr => ∃ (left : Lit → Bool) (cnt : Nat), Hid (wr.ranges Try.prog 3 (plainElem Try.prog 3) lb w.heap.size N D left cnt) ∧ Hid (Below w.heap.size w wr) ∧ Hid (∀ e t, WfI e → f e = some t → left (.int .i64 e) = false → ¬ (e < ep ∧ now - t < lease))) (fun _ wr => wr.rangeLeft lb w.heap.size)
  case atStart => exact ⟨_, _, HR0, H0, fun e t he ht hl => by
    have := HS.out.has e he
    rw [hl, ht] at this
    cases this⟩
  case round =>
    obtain ⟨left, cnt, HRG, HBr, HI⟩ := hrel
    go_wp2_with (first
      | (at_next; refine wpList_next_ranges_ii _ rfl _ rfl 3 3 .i64 .i64 law3 Try.underlying3 Try.underlying3 lb w.heap.size N _ _ _ rfl HRG.out ?_ ?_)
      | go_in)
    · intro _ hl0
      go_wp2_with fail
      go_ret
      exact ⟨_, rfl, ⟨fun _ e he hl => by obtain ⟨t, ht, h1⟩ := hl; exact HI.out e t he ht (hl0 _) h1, fun _ => rfl⟩, HBr.out⟩
    · intro x c w1 cnt1 hwx hwc hlx hat hrg1 hlt hg1 hs1 hen
      have hc := HS.out.came hwx hat
      obtain ⟨m1, m2⟩ := HF.out x c hc
      have HW : Hid (WfI x ∧ f x = some c) := ⟨hwx, hc⟩
      have HB1 : Hid (Below w.heap.size w w1) := HBr.out.trans ⟨hg1.os, hg1.tape, hg1.output, by omega, fun k hk => hg1.block k (by have := HBr.out.size; omega) (fun e => by simp at e; omega)⟩
      have HR1 : Hid (w1.ranges Try.prog 3 (plainElem Try.prog 3) lb w.heap.size N D (fun z => left z && !z.sameKey (.int .i64 x)) cnt1) := hrg1
      have HL : Hid (cnt1 < cnt) := hlt
      clear hwx hlx hat hrg1 hlt hg1 hs1 hc HBr
      by_cases k1 : x < ep
      · by_cases k2 : now - c < lease
        · go_wp2_with fail
          go_ret
          exact ⟨_, rfl, ⟨fun e => (by cases e), fun e => absurd ⟨c, HW.out.2, k1, k2⟩ (e x HW.out.1)⟩, HB1.out⟩
        · go_wp2_with fail
          go_roundw
          case rel => exact ⟨_, cnt1, HR1, HB1, fun e t he ht hl => by
            rw [same_key] at hl
            cases hle : left (.int .i64 e) with
            | false => exact HI.out e t he ht hle
            | true =>
              rw [hle] at hl
              obtain rfl : e = x := by simpa using hl
              rw [HW.out.2] at ht
              obtain rfl := Option.some.inj ht
              exact fun q => k2 q.2⟩
          case measure => rw [HR1.out.left_eq, HRG.out.left_eq]; exact HL.out
      · go_wp2_with fail
        go_roundw
        case rel => exact ⟨_, cnt1, HR1, HB1, fun e t he ht hl => by
          rw [same_key] at hl
          cases hle : left (.int .i64 e) with
          | false => exact HI.out e t he ht hle
          | true =>
            rw [hle] at hl
            obtain rfl : e = x := by simpa using hl
            exact fun q => k1 q.1⟩
        case measure => rw [HR1.out.left_eq, HRG.out.left_eq]; exact HL.out
end Go.Proofs.Yteongcihannldaa
