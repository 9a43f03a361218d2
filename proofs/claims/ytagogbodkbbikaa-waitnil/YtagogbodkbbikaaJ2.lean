import Derived.Test.YtagogbodkbbikaaJ1
import Derived.BigRegion
import Derived.BigQuiet
import Derived.Great.Walk
import Derived.Laws.AppendOwnNone
namespace Go.Proofs.Ytagogbodkbbikaa
open Go Go.RowKit
set_option maxRecDepth 20000

/-! Injections that wait, in memory. -/
def askV (x : AskM) : Array Value := #[.int .i64 x.seq, .int .i64 x.index, .int .u8 (x.head.getD 0 0), .int .u8 (x.head.getD 1 0), .int .u8 (x.head.getD 2 0), .int .u8 (x.head.getD 3 0), .int .u8 (x.head.getD 4 0), .int .u8 (x.head.getD 5 0), .int .u8 (x.head.getD 6 0), .int .u8 (x.head.getD 7 0), .int .u8 (x.head.getD 8 0), .int .u8 (x.head.getD 9 0), .int .u8 (x.head.getD 10 0), .int .u8 (x.head.getD 11 0), .int .u8 (x.head.getD 12 0), .int .i64 x.sent, .int .i64 x.due]
def zeroA : AskM := ⟨0, 0, [], 0, 0⟩
def AskE : El := ⟨38, 41, 17, 48, askV zeroA⟩
theorem AskOk : AskE.Ok := ⟨Try.underlying41, ⟨_, Try.underlying38, rfl⟩, by kernel_rfl, rfl, by decide, by decide, by decide⟩
theorem ask_fits (x : AskM) : Fits AskE (askV x) := ⟨rfl, by simp [askV, Value.oneCell']⟩
theorem hv13 {L : List Int} (h : L.length = 13) : hv L = #[.int .u8 (L.getD 0 0), .int .u8 (L.getD 1 0), .int .u8 (L.getD 2 0), .int .u8 (L.getD 3 0), .int .u8 (L.getD 4 0), .int .u8 (L.getD 5 0), .int .u8 (L.getD 6 0), .int .u8 (L.getD 7 0), .int .u8 (L.getD 8 0), .int .u8 (L.getD 9 0), .int .u8 (L.getD 10 0), .int .u8 (L.getD 11 0), .int .u8 (L.getD 12 0)] := by
  apply Array.ext_getElem?
  intro k
  rcases (show k = 0 ∨ k = 1 ∨ k = 2 ∨ k = 3 ∨ k = 4 ∨ k = 5 ∨ k = 6 ∨ k = 7 ∨ k = 8 ∨ k = 9 ∨ k = 10 ∨ k = 11 ∨ k = 12 ∨ 13 ≤ k by omega) with rfl | rfl | rfl | rfl | rfl | rfl | rfl | rfl | rfl | rfl | rfl | rfl | rfl | hk
  all_goals first
    | (rw [hv_at L h _ (by decide)]; rfl)
    | (rw [Array.getElem?_eq_none (by rw [hv_size]; omega), Array.getElem?_eq_none (by simpa using hk)])
set_option maxRecDepth 100000 in
theorem build_ask (a b d : Int) {L : List Int} (hL : L.length = 13) (W : World) : (Instr.build 38 #[(0, .int .i64 a), (1, .int .i64 b), (2, .agg (hv L)), (3, .int .i64 1), (4, .int .i64 d)]).run Try.prog W = .ok (.agg (askV ⟨a, b, L, 1, d⟩)) W := by
  rw [hv13 hL]
  kernel_rfl
set_option maxRecDepth 100000 in
theorem build_ask0 (W : World) : (Instr.build 38 #[]).run Try.prog W = .ok (.agg (askV zeroA)) W := by
  unfold zeroA askV
  kernel_rfl
set_option maxRecDepth 100000 in
theorem zero_ask (W : World) : (zeroValue 38).run Try.prog W = .ok (.agg (askV zeroA)) W := by
  unfold zeroA askV
  kernel_rfl
theorem alloc_ask (w : World) : (Instr.alloc 38 true (.tuple #[])).run Try.prog w = .ok (.pointer (some ⟨w.heap.size, 0, none⟩)) (w.alloc (.cells (askV zeroA) 38)) := by
  have hz := zero_ask w
  simp [Instr.alloc, Sem.run_bind, hz, newVar, newRow, Value.cells]
theorem wl_gaK {P : Program} {ops : Array Oper} {Q : Exit → Act → World → Prop} {o : Oper} {rest : List Oper} {a : Act} {w : World} (_ : o.op = .alloc 38) (h : wpList P ops Q (o :: rest) a w) : wpList P ops Q (o :: rest) a w := h
theorem wl_glK {P : Program} {ops : Array Oper} {Q : Exit → Act → World → Prop} {o : Oper} {rest : List Oper} {a : Act} {w : World} (x : Operand) (_ : o.op = .load 38 x) (h : wpList P ops Q (o :: rest) a w) : wpList P ops Q (o :: rest) a w := h
theorem wl_gsK {P : Program} {ops : Array Oper} {Q : Exit → Act → World → Prop} {o : Oper} {rest : List Oper} {a : Act} {w : World} (x y : Operand) (_ : o.op = .store 38 x y) (h : wpList P ops Q (o :: rest) a w) : wpList P ops Q (o :: rest) a w := h
theorem wl_gbK {P : Program} {ops : Array Oper} {Q : Exit → Act → World → Prop} {o : Oper} {rest : List Oper} {a : Act} {w : World} (x : Operand) (_ : o.op = .buildSlice 41 1 #[(0, x)]) (h : wpList P ops Q (o :: rest) a w) : wpList P ops Q (o :: rest) a w := h
theorem wl_gzK {P : Program} {ops : Array Oper} {Q : Exit → Act → World → Prop} {o : Oper} {rest : List Oper} {a : Act} {w : World} (_ : o.op = .build 38 #[]) (h : wpList P ops Q (o :: rest) a w) : wpList P ops Q (o :: rest) a w := h
theorem wl_geK {P : Program} {ops : Array Oper} {Q : Exit → Act → World → Prop} {o : Oper} {rest : List Oper} {a : Act} {w : World} (_ : o.op = .buildSlice 41 0 #[]) (h : wpList P ops Q (o :: rest) a w) : wpList P ops Q (o :: rest) a w := h
theorem sz_allocK (w : World) (o : Obj) : (w.alloc o).heap.size = w.heap.size + 1 := by simp
theorem wl_allocK {ops : Array Oper} {rest : List Oper} {o : Oper} {a : Act} {w : World} {Q : Exit → Act → World → Prop} (hg : o.guard = none) (ho : o.op = .alloc 38)
    (h : wpList Try.prog ops Q rest (a.put o.dst (.pointer (some ⟨w.heap.size, 0, none⟩))) (w.alloc (.cells (askV zeroA) 38))) : wpList Try.prog ops Q (o :: rest) a w := by
  refine Great.wpList_allocTo hg o.dst rfl _ _ ?_ h
  unfold execOp
  simp only [ho, Sem.run_bind, alloc_ask, Result.andThen_ok, Sem.run_pure]
theorem wl_buildK {ops : Array Oper} {rest : List Oper} {o : Oper} {a : Act} {w : World} {Q : Exit → Act → World → Prop} (hg : o.guard = none) (ho : o.op = .build 38 #[])
    (h : wpList Try.prog ops Q rest (a.put o.dst (.agg (askV zeroA))) w) : wpList Try.prog ops Q (o :: rest) a w := by
  refine Great.wpList_readTo hg o.dst rfl _ ?_ h
  unfold execOp
  simp only [ho, Sem.run_bind, List.map_toArray, List.map_nil, build_ask0, Result.andThen_ok, Sem.run_pure]
theorem wl_storeK {ops : Array Oper} {rest : List Oper} {o : Oper} {a : Act} {w : World} {Q : Exit → Act → World → Prop} (hgd : o.guard = none) (x y : Operand) (ho : o.op = .store 38 x y)
    (g : Nat) (s z : AskM) (hx : a.eval x = .pointer (some ⟨g, 0, none⟩)) (hy : a.eval y = .agg (askV s)) (hg : w.heap[g]? = some (.cells (askV z) 38 (0, 0)))
    (w' : World) (hw' : w.setRow g (askV s) = w')
    (h : wpList Try.prog ops Q rest (a.put o.dst undef) w') : wpList Try.prog ops Q (o :: rest) a w :=
  wl_storeE (E := AskE) AskOk hgd x y ho g (askV s) (ask_fits s) hx hy _ hg rfl w' hw' h
theorem wl_loadK {ops : Array Oper} {rest : List Oper} {o : Oper} {a : Act} {w : World} {Q : Exit → Act → World → Prop} (hw : Region.wanted o (yielded ops a.tmps) = true) (x : Operand) (ho : o.op = .load 38 x)
    (g off : Nat) (hx : a.eval x = .pointer (some ⟨g, off, none⟩)) (s : AskM) (hl : (loadVar 38 ⟨g, off, none⟩).run Try.prog w = .ok (.agg (askV s)) w)
    (h : wpList Try.prog ops Q rest (a.put o.dst (.agg (askV s))) w) : wpList Try.prog ops Q (o :: rest) a w := by
  refine wpList_step fun K hK => ?_
  rw [if_pos hw]
  unfold Oper.wp execOp
  simp only [ho, hx, Instr.loadAt, Instr.sureAddr, Sem.run_bind, Sem.run_pure, Result.andThen_ok, hl]
  exact hK _ _ h
theorem ldK_row {w : World} {g off : Nat} {cur : Array Value} {t : TypeId} {fr : Nat × Nat} {s : AskM} (hg : w.heap[g]? = some (.cells cur t fr)) (hc : ∀ j, j < 17 → cur[off + j]? = (askV s)[j]?) : (loadVar 38 ⟨g, off, none⟩).run Try.prog w = .ok (.agg (askV s)) w :=
  AskOk.load w g off cur t fr (askV s) rfl hg hc
theorem ldK_own {w : World} {g : Nat} {t : TypeId} {fr : Nat × Nat} {s : AskM} (hg : w.heap[g]? = some (.cells (askV s) t fr)) : (loadVar 38 ⟨g, 0, none⟩).run Try.prog w = .ok (.agg (askV s)) w := ldK_row hg fun j _ => by rw [Nat.zero_add]
theorem wl_build1K {ops : Array Oper} {rest : List Oper} {o : Oper} {a : Act} {w : World} {Q : Exit → Act → World → Prop} (hg : o.guard = none) (x : Operand) (ho : o.op = .buildSlice 41 1 #[(0, x)]) (s : AskM) (hx : a.eval x = .agg (askV s))
    (h : wpList Try.prog ops Q rest (a.put o.dst (.slice (some ⟨w.heap.size, 0, none⟩) 1 1)) (w.alloc (.cells (askV s) 38))) : wpList Try.prog ops Q (o :: rest) a w :=
  wl_buildE (E := AskE) AskOk hg x ho (askV s) rfl hx h
theorem wl_build0K {ops : Array Oper} {rest : List Oper} {o : Oper} {a : Act} {w : World} {Q : Exit → Act → World → Prop} (hg : o.guard = none) (ho : o.op = .buildSlice 41 0 #[])
    (h : wpList Try.prog ops Q rest (a.put o.dst (.slice (some ⟨w.heap.size, 0, none⟩) 0 0)) (w.alloc (.cells #[] 38))) : wpList Try.prog ops Q (o :: rest) a w := by
  obtain ⟨ie, hie, hz, hs, _⟩ := AskOk.info
  refine wpList_plain hg fun _ hK => ?_
  unfold Oper.wp execOp
  have hrun : (Instr.buildSlice 41 0 #[]).run Try.prog w = .ok (.slice (some ⟨w.heap.size, 0, none⟩) 0 0) (w.alloc (.cells #[] 38)) := by
    have h0 : Array.range 0 = #[] := Array.eq_empty_of_size_eq_zero (by simp)
    have hie' : Try.prog.info? 38 = some ie := hie
    simp [Instr.buildSlice, run_underlying Try.underlying41, sizeOf, typeInfo, hie', Instr.fill, newRow, h0]
  simp only [ho, Sem.run_bind, List.map_toArray, List.map_nil, hrun, Result.andThen_ok]
  exact hK _ _ h
/-- A row of them, one's own. -/
def AsksAt (B : Nat) (w : World) (v : Value) (C : List AskM) : Prop := w.ownsRow B 38 17 v C.length (gcells askV C)
theorem AsksAt.sl {B : Nat} {w : World} {v : Value} {C : List AskM} (h : AsksAt B w v C) : GSl AskE askV w v C := gsl_of (E := AskE) h fun _ _ => rfl
theorem AsksAt.lt {B : Nat} {w : World} {v : Value} {C : List AskM} (h : AsksAt B w v C) : ∀ k, v.ownBlock = some k → B ≤ k ∧ k < w.heap.size := World.ownsRow.lt h
theorem AsksAt.nil (B : Nat) (w : World) : AsksAt B w (.slice none 0 0) [] := World.ownsRow_nil _ _ _ _
theorem AsksAt.kept {X : Nat → Prop} {B : Nat} {w w' : World} {v : Value} {C : List AskM} (h : AsksAt B w v C) (hk : Kept X w w') (hX : ∀ k, v.ownBlock = some k → ¬ X k) : AsksAt B w' v C := hk.own h hX
theorem AsksAt.below {B : Nat} {w w' : World} {v : Value} {C : List AskM} (h : AsksAt B w v C) (hb : Below w.heap.size w w') : AsksAt B w' v C := gown_below h hb
theorem AsksAt.base {B B' : Nat} {w : World} {v : Value} {C : List AskM} (h : AsksAt B w v C) (hB : B' ≤ B) : AsksAt B' w v C := gown_base h hB
theorem AsksAt.slice {B : Nat} {w : World} {v : Value} {C : List AskM} (h : AsksAt B w v C) : ∃ o cap, v = .slice o C.length cap ∧ C.length ≤ cap ∧ cap ≤ maxLen := h.sl.slice
theorem asks0 (w : World) : AsksAt w.heap.size (w.alloc (.cells #[] 38)) (.slice (some ⟨w.heap.size, 0, none⟩) 0 0) [] := ⟨by simp [gcells], .inr ⟨_, 0, #[], rfl, Nat.le_refl _, heap_new _ _ _ rfl, Nat.le_refl _, Nat.zero_le _, by simp, by simp [gcells]⟩⟩
theorem own_tyK {e : TypeId} {s : Nat} {B : Nat} {w : World} {v : Value} {m : Nat} {xs : List Value} (h : w.ownsRow B e s v m xs) {g : Nat} {cs : Array Value} {t : TypeId} {fr : Nat × Nat} (hg : w.heap[g]? = some (.cells cs t fr)) (ht : t ≠ e) : v.ownBlock ≠ some g := by
  intro q
  obtain ⟨_, ⟨rfl, _⟩ | ⟨g', cap, cur, rfl, _, h1, _⟩⟩ := h
  · cases q
  · simp only [Value.ownBlock, Option.some.injEq] at q
    subst q
    rw [hg] at h1
    simp only [Option.some.injEq, Obj.cells.injEq] at h1
    exact ht h1.2.1
/-- One more in a row of one's own. -/
theorem wl_appK {ops : Array Oper} {rest : List Oper} {o : Oper} {a : Act} {w : World} {Q : Exit → Act → World → Prop} (hgd : o.guard = none) (s x : Operand) (ho : o.op = .call { callee := .builtin .append, args := #[s, x], argTypes := #[41, 41] })
    (B : Nat) (v : Value) (C : List AskM) (c : AskM) (hs : a.eval s = v) (hown : AsksAt B w v C) (g cap : Nat) (hx : a.eval x = .slice (some ⟨g, 0, none⟩) 1 cap) (hg : w.heap[g]? = some (.cells (askV c) 38 (0, 0)))
    (hn : C.length ≤ 1000000) (hB : B ≤ w.heap.size)
    (h : ∀ v' w', AsksAt B w' v' (C ++ [c]) → w.grownBy w' v.ownBlock → (v'.ownBlock = v.ownBlock ∨ v'.ownBlock = some w.heap.size) → wpList Try.prog ops Q rest (a.put o.dst v') w') : wpList Try.prog ops Q (o :: rest) a w :=
  wl_appendE (E := AskE) AskOk askV hgd s x ho B v C c (ask_fits c) hs hown g cap hx hg hn hB h
/-- The fields of one that waits. -/
structure AskF (w : World) (g off : Nat) (x : AskM) : Prop where
  c0 : w.cell? ⟨g, off, none⟩ = some (.int .i64 x.seq)
  c1 : w.cell? ⟨g, off + 1, none⟩ = some (.int .i64 x.index)
  c3 : w.cell? ⟨g, off + 15, none⟩ = some (.int .i64 x.sent)
  c4 : w.cell? ⟨g, off + 16, none⟩ = some (.int .i64 x.due)
theorem askf_of {w : World} {g off : Nat} {cur : Array Value} {ty : TypeId} {fr : Nat × Nat} {x : AskM} (hg : w.heap[g]? = some (.cells cur ty fr)) (hc : ∀ j, j < 17 → cur[off + j]? = (askV x)[j]?) : AskF w g off x :=
  ⟨by rw [cell_of_row w g off cur ty fr hg]; exact hc 0 (by decide), by rw [cell_of_row w g (off + 1) cur ty fr hg]; exact hc 1 (by decide), by rw [cell_of_row w g (off + 15) cur ty fr hg]; exact hc 15 (by decide), by rw [cell_of_row w g (off + 16) cur ty fr hg]; exact hc 16 (by decide)⟩
theorem askf_own {w : World} {g : Nat} {ty : TypeId} {fr : Nat × Nat} {x : AskM} (hg : w.heap[g]? = some (.cells (askV x) ty fr)) : AskF w g 0 x := askf_of hg fun j _ => by rw [Nat.zero_add]

/-! The object. -/
def waV (m : WaitM) (v : Value) : Array Value := #[.int .i64 m.room, .int .i64 m.tries, .int .i64 m.time, .int .i64 (m.last : Int), v]
structure WaitV (B : Nat) (w : World) (g : Nat) (m : WaitM) (v : Value) : Prop where
  blk : w.heap[g]? = some (.cells (waV m v) 52 (0, 0))
  own : AsksAt B w v m.l
  hB : B ≤ g
def footW (g : Nat) (v : Value) (k : Nat) : Prop := k = g ∨ v.ownBlock = some k
theorem WaitV.foot_in {B : Nat} {w : World} {g : Nat} {m : WaitM} {v : Value} (h : WaitV B w g m v) : ∀ k, footW g v k → B ≤ k ∧ k < w.heap.size := by
  rintro k (rfl | e)
  · exact ⟨h.hB, (Array.getElem?_eq_some_iff.1 h.blk).1⟩
  · exact h.own.lt k e
theorem WaitV.kept {X : Nat → Prop} {B : Nat} {w w' : World} {g : Nat} {m : WaitM} {v : Value} (h : WaitV B w g m v) (hk : Kept X w w') (hX : ∀ k, footW g v k → ¬ X k) : WaitV B w' g m v :=
  ⟨hk.heap h.blk (hX _ (.inl rfl)), h.own.kept hk fun k e => hX k (.inr e), h.hB⟩
theorem WaitV.below {B : Nat} {w w' : World} {g : Nat} {m : WaitM} {v : Value} (h : WaitV B w g m v) (hb : Below w.heap.size w w') : WaitV B w' g m v := h.kept (X := fun _ => False) (Kept.of_below hb) fun _ _ e => e
theorem WaitV.hw {B : Nat} {w : World} {g : Nat} {m : WaitM} {v : Value} (h : WaitV B w g m v) : B ≤ w.heap.size := by have := h.foot_in g (.inl rfl); omega
structure WaitF (w : World) (g : Nat) (m : WaitM) (v : Value) : Prop where
  c0 : w.cell? ⟨g, 0, none⟩ = some (.int .i64 m.room)
  c1 : w.cell? ⟨g, 1, none⟩ = some (.int .i64 m.tries)
  c2 : w.cell? ⟨g, 2, none⟩ = some (.int .i64 m.time)
  c3 : w.cell? ⟨g, 3, none⟩ = some (.int .i64 (m.last : Int))
  c4 : w.cell? ⟨g, 4, none⟩ = some v
  fz : ∀ k, w.frozen? ⟨g, k, none⟩ = false
theorem waitf_of {w : World} {g : Nat} {m : WaitM} {v : Value} {t : TypeId} (hg : w.heap[g]? = some (.cells (waV m v) t (0, 0))) : WaitF w g m v :=
  ⟨by rw [cell_of_row w g _ _ _ _ hg]; rfl, by rw [cell_of_row w g _ _ _ _ hg]; rfl, by rw [cell_of_row w g _ _ _ _ hg]; rfl, by rw [cell_of_row w g _ _ _ _ hg]; rfl, by rw [cell_of_row w g _ _ _ _ hg]; rfl, fun k => by simp [World.frozen?, hg]⟩
theorem WaitV.f {B : Nat} {w : World} {g : Nat} {m : WaitM} {v : Value} (h : WaitV B w g m v) : WaitF w g m v := waitf_of h.blk
def WaitTo (B : Nat) (w w' : World) (g : Nat) (m' : WaitM) (v : Value) : Prop := ∃ u, WaitV B w' g m' u ∧ Frm (footW g v) (footW g u) w w'
theorem WaitV.stay {B : Nat} {w w' : World} {g : Nat} {m : WaitM} {v : Value} (h : WaitV B w g m v) (hb : Below w.heap.size w w') : WaitTo B w w' g m v := ⟨v, h.below hb, Frm.of_below hb⟩
theorem WaitTo.trans {B : Nat} {w w1 w2 : World} {g : Nat} {m' m'' : WaitM} {v : Value} (h : WaitTo B w w1 g m' v) (hn : ∀ u, WaitV B w1 g m' u → WaitTo B w1 w2 g m'' u) : WaitTo B w w2 g m'' v := by
  obtain ⟨u, h1, h2⟩ := h
  obtain ⟨x, h4, h5⟩ := hn u h1
  exact ⟨x, h4, h2.trans h5⟩
theorem WaitTo.add {B : Nat} {w w1 w2 : World} {g : Nat} {m' : WaitM} {v : Value} (h : WaitTo B w w1 g m' v) (hb : Below w1.heap.size w1 w2) : WaitTo B w w2 g m' v := h.trans fun _ e => e.stay hb
/-- A number is set. -/
theorem WaitV.setC {B : Nat} {w : World} {g : Nat} {m : WaitM} {v : Value} (h : WaitV B w g m v) (k : Nat) (x : Value) (m' : WaitM) (hs : (waV m v).setIfInBounds k x = waV m' v) (hl : m'.l = m.l) : WaitV B (w.setCell ⟨g, k, none⟩ x) g m' v ∧ Frm (footW g v) (footW g v) w (w.setCell ⟨g, k, none⟩ x) := by
  have hK2 : Kept (isB g) w (w.setCell ⟨g, k, none⟩ x) := ⟨rfl, rfl, rfl, by simp [World.setCell], fun k' _ e => heap_setCell_other w ⟨g, k, none⟩ k' _ e⟩
  refine ⟨⟨?_, by rw [hl]; exact h.own.kept hK2 fun q e e' => by unfold isB at e'; subst e'; exact own_tyK h.own h.blk (by decide) e, h.hB⟩, ⟨hK2.mono fun q _ e => .inl e, fun q e => .inl e⟩⟩
  rw [heap_setCell_same w g k _ _ _ h.blk, hs]
/-- The row is put back. -/
theorem WaitV.put {B : Nat} {w w' : World} {g : Nat} {m m' : WaitM} {v u : Value} (h : WaitV B w g m v) (hk : Kept (rowX v) w w') (hu : AsksAt B w' u m'.l) (ho : u.ownBlock = v.ownBlock ∨ ∀ k, u.ownBlock = some k → w.heap.size ≤ k) (hs : waV m' u = waV m u) :
    WaitV B (w'.setCell ⟨g, 4, none⟩ u) g m' u ∧ Frm (footW g v) (footW g u) w (w'.setCell ⟨g, 4, none⟩ u) := by
  have hgx : ¬ rowX v g := own_tyK h.own h.blk (by decide)
  have hbk := hk.heap h.blk hgx
  have hset : (w'.setCell ⟨g, 4, none⟩ u).heap[g]? = some (.cells (waV m' u) 52 (0, 0)) := by
    rw [heap_setCell_same w' g 4 _ _ u hbk, hs]
    rfl
  have hK2 : Kept (isB g) w' (w'.setCell ⟨g, 4, none⟩ u) := ⟨rfl, rfl, rfl, by simp [World.setCell], fun k _ e => heap_setCell_other w' ⟨g, 4, none⟩ k _ e⟩
  refine ⟨⟨hset, hu.kept hK2 fun k e e' => by unfold isB at e'; subst e'; exact own_tyK hu hbk (by decide) e, h.hB⟩, ⟨(hk.mono (Y := footW g v) fun k _ e => .inr e).trans hK2 fun k e => .inl (.inl e), fun k e => ?_⟩⟩
  rcases e with e | e
  · exact .inl (.inl e)
  · rcases ho with e' | e'
    · rw [e'] at e; exact .inl (.inr e)
    · exact .inr (e' k e)
/-! What holds of it besides. -/
structure WaitIn (m : WaitM) : Prop where
  ok : WaitOk m
  r64 : m.room ≤ 64
  t8 : m.tries ≤ 8
  ti : m.time ≤ 1000
theorem new_inW {room tries time : Int} {m : WaitM} (h : newW room tries time = some m) : WaitIn m := by
  have hk := new_okW h
  unfold newW at h
  split at h
  · rename_i hc
    obtain rfl := Option.some.inj h
    exact ⟨hk, hc.2.1, hc.2.2.2.1, hc.2.2.2.2.2⟩
  · cases h
theorem add_inW {m : WaitM} (h : WaitIn m) (i : Int) (hd : List Int) (now : Int) : WaitIn (addW m i hd now).1 := by
  have e : (addW m i hd now).1.room = m.room ∧ (addW m i hd now).1.tries = m.tries ∧ (addW m i hd now).1.time = m.time := by
    unfold addW
    split <;> exact ⟨rfl, rfl, rfl⟩
  exact ⟨add_okW h.ok i hd now, by rw [e.1]; exact h.r64, by rw [e.2.1]; exact h.t8, by rw [e.2.2]; exact h.ti⟩
theorem answer_inW {m : WaitM} (h : WaitIn m) (s : Int) : WaitIn (answerW m s).1 := by
  have e : (answerW m s).1.room = m.room ∧ (answerW m s).1.tries = m.tries ∧ (answerW m s).1.time = m.time := by
    unfold answerW
    split <;> exact ⟨rfl, rfl, rfl⟩
  exact ⟨answer_okW h.ok s, by rw [e.1]; exact h.r64, by rw [e.2.1]; exact h.t8, by rw [e.2.2]; exact h.ti⟩
theorem tick_inW {m : WaitM} (h : WaitIn m) (now : Int) : WaitIn (tickW m now) := ⟨tick_okW h.ok now, h.r64, h.t8, h.ti⟩
theorem clear_inW {m : WaitM} (h : WaitIn m) : WaitIn (clearW m) := ⟨clear_okW h.ok, h.r64, h.t8, h.ti⟩
theorem WaitIn.len {m : WaitM} (h : WaitIn m) : m.l.length ≤ 64 := by
  have h1 := h.ok.len
  have h2 := h.r64
  omega
theorem clock_in (now : Int) : 0 ≤ clockW now ∧ clockW now ≤ 1099511627776 := by unfold clockW; omega
end Go.Proofs.Ytagogbodkbbikaa
namespace Go.Proofs.Ytagogbodkbbikaa
open Go Go.RowKit
set_option maxRecDepth 20000

theorem wl_appendLW {E : El} (H : E.Ok) {α : Type} (enc : α → Array Value) (hE : ∀ x, Fits E (enc x)) {ops : Array Oper} {rest : List Oper} {o : Oper} {a : Act} {w : World} {Q : Exit → Act → World → Prop} (hgd : o.guard = none) (s x : Operand) (ho : o.op = .call { callee := .builtin .append, args := #[s, x], argTypes := #[E.slice, E.slice] })
    (base base' : Nat) (v u : Value) (C D : List α) (hs : a.eval s = v) (hown : w.ownsRow base E.elem E.size v C.length (gcells enc C)) (hx : a.eval x = u) (hu : w.ownsRow base' E.elem E.size u D.length (gcells enc D))
    (hn : C.length + D.length ≤ 1000000) (hbase : base ≤ w.heap.size)
    (h : ∀ v' w', w'.ownsRow base E.elem E.size v' (C ++ D).length (gcells enc (C ++ D)) → w.grownBy w' v.ownBlock → (v'.ownBlock = v.ownBlock ∨ v'.ownBlock = some w.heap.size) → wpList Try.prog ops Q rest (a.put o.dst v') w') : wpList Try.prog ops Q (o :: rest) a w := by
  obtain ⟨i0, hi, hz0, hz1, hz2⟩ := H.info
  have hb := H.hb
  have hu0 := hu
  have hl : (gcells enc D).length = D.length * E.size := hu.1
  obtain ⟨_, ⟨rfl, h0⟩ | ⟨g, cap, cur, rfl, hB, hcur, h1, h2, h3, h4⟩⟩ := hu
  · have hD0 : D = [] := List.eq_nil_of_length_eq_zero h0
    subst hD0
    refine wpList_append_own_none hgd s x E.slice ho base E.elem i0 E.size H.hs hi v _ _ hs hown hx (h v w ?_ ?_ (.inl rfl))
    · rw [List.append_nil]; exact hown
    · exact ⟨rfl, rfl, rfl, Nat.le_refl _, fun k _ _ => rfl⟩
  · refine wpList_append_own_at w hgd s x E.slice ho base E.elem i0 (.agg E.zero) E.size E.bytes H.hs hi hz0 hz1 hz2 (by simpa [Value.cells] using H.hz) H.hp v _ _ hs hown ⟨g, 0, none⟩ D.length cap (gcells enc D) hx hl (fun j y hy => ?_) (fun y hy => ?_) (by unfold maxLen; omega) ?_ hbase ?_
    · have hj : j < D.length * E.size := by rw [← hl]; exact (List.getElem?_eq_some_iff.1 hy).1
      have hadd : (⟨g, 0, none⟩ : Addr).add j = ⟨g, j, none⟩ := by unfold Addr.add; split <;> simp_all
      rw [hadd, cell_of_row w g j _ _ _ hcur, ← hy, ← h4, List.getElem?_take_of_lt hj, Array.getElem?_toList]
    · unfold gcells at hy
      obtain ⟨c, _, hc⟩ := List.mem_flatMap.1 hy
      exact (Array.all_eq_true_iff_forall_mem.1 (hE c).2) y (by simpa using hc)
    · exact Nat.le_trans (Nat.mul_le_mul (show C.length + D.length ≤ 1000000 by omega) hb) (by decide)
    · intro v' w' h5 h6 _ h7
      refine h v' w' ?_ h6 h7
      rw [List.length_append, gcells_append]; exact h5
theorem wl_appLK {ops : Array Oper} {rest : List Oper} {o : Oper} {a : Act} {w : World} {Q : Exit → Act → World → Prop} (hgd : o.guard = none) (s x : Operand) (ho : o.op = .call { callee := .builtin .append, args := #[s, x], argTypes := #[41, 41] })
    (B B' : Nat) (v u : Value) (C D : List AskM) (hs : a.eval s = v) (hown : AsksAt B w v C) (hx : a.eval x = u) (hu : AsksAt B' w u D) (hn : C.length + D.length ≤ 1000000) (hB : B ≤ w.heap.size)
    (h : ∀ v' w', AsksAt B w' v' (C ++ D) → w.grownBy w' v.ownBlock → (v'.ownBlock = v.ownBlock ∨ v'.ownBlock = some w.heap.size) → wpList Try.prog ops Q rest (a.put o.dst v') w') : wpList Try.prog ops Q (o :: rest) a w :=
  wl_appendLW (E := AskE) AskOk askV ask_fits hgd s x ho B B' v u C D hs hown hx hu hn hB h
theorem eq_nilK (o : Option Addr) (n c : Nat) (w : World) : (binOp .eql 41 (.slice o n c) (.slice none 0 0)).run Try.prog w = .ok (.bool o.isNone) w := by
  simp only [binOp]
  simp [run_equal_slice_nil w 41 38 o n c Try.underlying41]
theorem bounded_any (now : Int) (w : World) : Calls Try.prog 22 #[.int .i64 now] w fun e w' => e = .returned (.int .i64 (clockW now)) ∧ w' = w := by
  unfold clockW
  obtain ⟨m, hm⟩ : ∃ m, m = max now 0 := ⟨_, rfl⟩
  obtain ⟨q, hq⟩ : ∃ q, q = min m 1099511627776 := ⟨_, rfl⟩
  rw [← hm, ← hq]
  have HM : Hid (m = max now 0) := hm
  have HQ : Hid (q = min m 1099511627776) := hq
  clear hm hq
  go_enter Try.func22, Try.ntmps22
  go_wp2_with (first
    | (refine wl_maxI rfl (.tmp 3) _ rfl now 0 m rfl rfl HM.out ?_)
    | (refine wl_minI rfl (.tmp 4) _ rfl m 1099511627776 q rfl rfl HQ.out ?_))
  go_ret
  exact ⟨rfl, rfl⟩
def OkNew (room tries time : Int) : Prop := 1 ≤ room ∧ room ≤ 64 ∧ 0 ≤ tries ∧ tries ≤ 8 ∧ 1 ≤ time ∧ time ≤ 1000
set_option maxHeartbeats 4000000 in
theorem newWt_yes (room tries time : Int) (h : OkNew room tries time) (w : World) :
    Calls Try.prog 8 #[.int .i64 room, .int .i64 tries, .int .i64 time] w fun e w' => e = .returned (.tuple #[.pointer (some ⟨w.heap.size, 0, none⟩), .int .i64 0]) ∧ WaitV w.heap.size w' w.heap.size ⟨room, tries, time, [], 0⟩ (.slice none 0 0) ∧ Below w.heap.size w w' := by
  have HN : Hid (WaitV w.heap.size (w.alloc (.cells (waV ⟨room, tries, time, [], 0⟩ (.slice none 0 0)) 52)) w.heap.size ⟨room, tries, time, [], 0⟩ (.slice none 0 0)) := ⟨heap_new _ _ _ rfl, AsksAt.nil _ _, Nat.le_refl _⟩
  obtain ⟨h1, h2, h3, h4, h5, h6⟩ := h
  have d1 : ¬ room < 1 := by omega
  have d2 : ¬ room > 64 := by omega
  have d3 : ¬ tries < 0 := by omega
  have d4 : ¬ tries > 8 := by omega
  have d5 : ¬ time < 1 := by omega
  have d6 : ¬ time > 1000 := by omega
  clear h1 h2 h3 h4 h5 h6
  go_enter Try.func8, Try.ntmps8
  go_wp2_with fail
  go_ret2
  exact ⟨rfl, HN.out, (Below.refl _ _).alloc (Nat.le_refl _) _⟩
set_option maxHeartbeats 4000000 in
theorem newWt_no (room tries time : Int) (h : ¬ OkNew room tries time) (w : World) :
    Calls Try.prog 8 #[.int .i64 room, .int .i64 tries, .int .i64 time] w fun e w' => e = .returned (.tuple #[.pointer none, .int .i64 1]) ∧ w' = w := by
  by_cases h1 : room < 1
  · clear h
    go_enter Try.func8, Try.ntmps8
    go_wp2_with fail
    go_ret2
    exact ⟨rfl, rfl⟩
  by_cases h2 : room > 64
  · clear h
    go_enter Try.func8, Try.ntmps8
    go_wp2_with fail
    go_ret2
    exact ⟨rfl, rfl⟩
  by_cases h3 : tries < 0
  · clear h
    go_enter Try.func8, Try.ntmps8
    go_wp2_with fail
    go_ret2
    exact ⟨rfl, rfl⟩
  by_cases h4 : tries > 8
  · clear h
    go_enter Try.func8, Try.ntmps8
    go_wp2_with fail
    go_ret2
    exact ⟨rfl, rfl⟩
  by_cases h5 : time < 1
  · clear h
    go_enter Try.func8, Try.ntmps8
    go_wp2_with fail
    go_ret2
    exact ⟨rfl, rfl⟩
  by_cases h6 : time > 1000
  · clear h
    go_enter Try.func8, Try.ntmps8
    go_wp2_with fail
    go_ret2
    exact ⟨rfl, rfl⟩
  exact absurd ⟨by omega, by omega, by omega, by omega, by omega, by omega⟩ h
set_option maxHeartbeats 4000000 in
theorem cloneK_any (B : Nat) (C : List AskM) (v : Value) (w : World) (hv : AsksAt B w v C) (hn : C.length ≤ 1000000) :
    Calls Try.prog 25 #[v] w fun e w' => (∃ u, e = .returned u ∧ AsksAt w.heap.size w' u C) ∧ Below w.heap.size w w' := by
  have hv0 := hv
  have EQ := eq_nilK
  obtain ⟨h1, ⟨rfl, h2⟩ | ⟨g, cap, cur, rfl, hB, hcur, h3, h4, h5, h6⟩⟩ := hv
  · have hC : C = [] := List.eq_nil_of_length_eq_zero h2
    subst hC
    go_enter Try.func25, Try.ntmps25
    go_wp2_with fail
    go_ret
    exact ⟨⟨_, rfl, AsksAt.nil _ _⟩, Below.refl _ _⟩
  · have B0 : Hid (Below w.heap.size w (w.alloc (.cells #[] 38))) := (Below.refl _ _).alloc (Nat.le_refl _) _
    have HV : Hid (AsksAt B (w.alloc (.cells #[] 38)) (.slice (some ⟨g, 0, none⟩) C.length cap) C) := hv0.below B0.out
    have S0 : Hid (AsksAt w.heap.size (w.alloc (.cells #[] 38)) (.slice (some ⟨w.heap.size, 0, none⟩) 0 0) []) := asks0 w
    clear hv0 hcur h6 h1 h5
    generalize hcl : C.length = n at HV h3 ⊢
    have HCL : Hid (C.length = n) := hcl
    clear hcl
    go_enter Try.func25, Try.ntmps25
    go_wp2_with (first | ((with_reducible refine wl_geK rfl ?_); refine wl_build0K rfl rfl ?_; try rw [sz_allocK]) | (at_builtin; refine of_stopT ?_))
    unfold StopT
    refine wl_appLK rfl _ _ rfl w.heap.size B _ _ [] C rfl S0.out rfl HV.out (by simpa using hn) (by simp) ?_
    intro v' w3 hown3 hgr3 _
    have B3 : Hid (Below w.heap.size w w3) := B0.out.trans ((Below.refl _ _).grown hgr3 (by simp) fun k hk => by have h9 : some w.heap.size = some k := hk; simp only [Option.some.injEq] at h9; omega)
    have O3 : Hid (AsksAt w.heap.size w3 v' C) := hown3
    clear hown3 hgr3
    simp only [Act.put, List.setIfInBounds_toArray, List.set_cons_succ, List.set_cons_zero]
    go_wp2_with fail
    go_ret
    exact ⟨⟨_, rfl, O3.out⟩, B3.out⟩
set_option maxHeartbeats 4000000 in
theorem listW_any (B : Nat) (w : World) (g : Nat) (m : WaitM) (v : Value) (h : WaitV B w g m v) (hm : WaitIn m) :
    Calls Try.prog 19 #[.pointer (some ⟨g, 0, none⟩)] w fun e w' => (∃ u, e = .returned u ∧ AsksAt w.heap.size w' u m.l) ∧ Below w.heap.size w w' := by
  have HC := cloneK_any B m.l v w h.own (by have := hm.len; omega)
  have c4 := h.f.c4
  obtain ⟨o, cap, e, _, _⟩ := h.own.slice
  obtain ⟨q, hq⟩ : ∃ q, q = m.l.length := ⟨_, rfl⟩
  rw [← hq] at e
  clear h hq
  subst e
  go_enter Try.func19, Try.ntmps19
  go_wp2_with (go_at_call 25; refine HC.mono ?_; rintro e w1 ⟨⟨u, rfl, hu⟩, hb1⟩; have HU : Hid _ := hu; have HB : Hid _ := hb1; clear hu hb1)
  go_ret
  exact ⟨⟨_, rfl, HU.out⟩, HB.out⟩
set_option maxHeartbeats 4000000 in
theorem clearW_any (B : Nat) (w : World) (g : Nat) (m : WaitM) (v : Value) (h : WaitV B w g m v) :
    Calls Try.prog 17 #[.pointer (some ⟨g, 0, none⟩)] w fun e w' => e = .returned v ∧ AsksAt B w' v m.l ∧ WaitV B w' g (clearW m) (.slice none 0 0) ∧ Frm (footW g v) (footW g (.slice none 0 0)) w w' := by
  have c4 := h.f.c4
  have fz := h.f.fz 4
  have HZ : Hid (AsksAt B (w.setCell ⟨g, 4, none⟩ (.slice none 0 0)) v m.l ∧ WaitV B (w.setCell ⟨g, 4, none⟩ (.slice none 0 0)) g (clearW m) (.slice none 0 0) ∧ Frm (footW g v) (footW g (.slice none 0 0)) w (w.setCell ⟨g, 4, none⟩ (.slice none 0 0))) := by
    have hp := h.put (m' := clearW m) (u := .slice none 0 0) (Kept.refl _ _) (AsksAt.nil _ _) (.inr fun k e => by cases e) rfl
    have hK2 : Kept (isB g) w (w.setCell ⟨g, 4, none⟩ (.slice none 0 0)) := ⟨rfl, rfl, rfl, by simp [World.setCell], fun k' _ e => heap_setCell_other w ⟨g, 4, none⟩ k' _ e⟩
    exact ⟨h.own.kept hK2 fun q e e' => by unfold isB at e'; subst e'; exact own_tyK h.own h.blk (by decide) e, hp⟩
  obtain ⟨o, cap, e, _, _⟩ := h.own.slice
  obtain ⟨q, hq⟩ : ∃ q, q = m.l.length := ⟨_, rfl⟩
  rw [← hq] at e
  clear h hq
  subst e
  go_enter Try.func17, Try.ntmps17
  go_wp2_with fail
  go_ret
  exact ⟨rfl, HZ.out⟩
end Go.Proofs.Ytagogbodkbbikaa
