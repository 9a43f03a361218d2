import Derived.Test.YtagogbodkbbikaaJ2
import Derived.Test.YtagogbodkbbikaaJ4
namespace Go.Proofs.Ytagogbodkbbikaa
open Go Go.RowKit
set_option maxRecDepth 20000

theorem run_nilOpM {o : Oper} {x : Operand} (ho : o.op = .nilCheck x) (a : Act) (W : World) (ad : Addr) (hx : a.eval x = .pointer (some ad)) : (execOp a.eval o).run Try.prog W = .ok (.value (.pointer (some ad))) W := by
  unfold execOp
  simp only [ho, hx]
  simp [go_sem]
theorem load_intM (W : World) (ad : Addr) (n : Int) (h : W.cell? ad = some (.int .i64 n)) : (Instr.loadAt 3 (.pointer (some ad))).run Try.prog W = .ok (.int .i64 n) W := by
  simp [go_sem, h]
theorem load_hdrM {L : List Int} (hL : L.length = 13) (W : World) (p : Nat) (h : W.heap[p]? = some (.cells (hv L) 32 (0, 0))) : (Instr.loadAt 32 (.pointer (some ⟨p, 0, none⟩))).run Try.prog W = .ok (.agg (hv L)) W := by
  simp only [Instr.loadAt, Instr.sureAddr, Sem.run_bind, Sem.run_pure, Result.andThen_ok]
  exact run_loadVar_row W p 32 32 (hv L) (0, 0) _ h Try.underlying32 rfl (size26 L hL)
theorem run_addM {o : Oper} {x y : Operand} (ho : o.op = .binOp .add 3 x y 3) (a : Act) (W : World) (m n : Int) (hx : a.eval x = .int .i64 m) (hy : a.eval y = .int .i64 n) (hw : IntKind.i64.wrap (m + n) = m + n) : (execOp a.eval o).run Try.prog W = .ok (.value (.int .i64 (m + n))) W := by
  unfold execOp
  simp only [ho, hx, hy]
  simp [go_sem, hw]
theorem run_buildOpM {o : Oper} {t : Nat} {ps : Array (Nat × Operand)} (ho : o.op = .build t ps) (a : Act) (W : World) (qs : Array (Nat × Value)) (hq : (ps.map fun (i, x) => (i, a.eval x)) = qs) (v : Value) (h : (Instr.build t qs).run Try.prog W = .ok v W) : (execOp a.eval o).run Try.prog W = .ok (.value v) W := by
  unfold execOp
  simp only [ho, Sem.run_bind, hq, h, Result.andThen_ok, Sem.run_pure]
def wa6_ops : List Oper := [
  { dst := some 29, op := .move (.tmp 0), type := 24, pos := "wait.go:41", after := #[], guard := none },
  { dst := some 30, op := .move (.tmp 0), type := 24, pos := "wait.go:41", after := #[], guard := none },
  { dst := some 31, op := .nilCheck (.tmp 30), type := 0, pos := "wait.go:41", after := #[{ on := 1, ground := .data }], guard := none },
  { dst := some 32, op := .fieldAddr 52 (.tmp 31) 4, type := 0, pos := "wait.go:41", after := #[{ on := 2, ground := .data }], guard := none },
  { dst := some 33, op := .load 41 (.tmp 32), type := 41, pos := "wait.go:41", after := #[{ on := 3, ground := .data }], guard := none },
  { dst := some 34, op := .move (.tmp 0), type := 24, pos := "wait.go:41", after := #[], guard := none },
  { dst := some 35, op := .nilCheck (.tmp 34), type := 0, pos := "wait.go:41", after := #[{ on := 5, ground := .data }], guard := none },
  { dst := some 36, op := .fieldAddr 52 (.tmp 35) 3, type := 0, pos := "wait.go:41", after := #[{ on := 6, ground := .data }], guard := none },
  { dst := some 37, op := .load 3 (.tmp 36), type := 3, pos := "wait.go:41", after := #[{ on := 7, ground := .data }], guard := none },
  { dst := some 38, op := .move (.tmp 1), type := 3, pos := "wait.go:41", after := #[], guard := none },
  { dst := some 39, op := .load 32 (.tmp 6), type := 32, pos := "wait.go:41", after := #[], guard := none },
  { dst := some 40, op := .move (.tmp 3), type := 3, pos := "wait.go:41", after := #[], guard := none },
  { dst := some 41, op := .call { callee := .value (.func 22), args := #[.tmp 40], argTypes := #[3] }, type := 3, pos := "wait.go:41", after := #[{ on := 11, ground := .data }], guard := none },
  { dst := some 42, op := .move (.tmp 0), type := 24, pos := "wait.go:41", after := #[], guard := none },
  { dst := some 43, op := .nilCheck (.tmp 42), type := 0, pos := "wait.go:41", after := #[{ on := 13, ground := .data }], guard := none },
  { dst := some 44, op := .fieldAddr 52 (.tmp 43) 2, type := 0, pos := "wait.go:41", after := #[{ on := 14, ground := .data }], guard := none },
  { dst := some 45, op := .load 3 (.tmp 44), type := 3, pos := "wait.go:41", after := #[{ on := 15, ground := .data }], guard := none },
  { dst := some 46, op := .binOp .add 3 (.tmp 41) (.tmp 45) 3, type := 3, pos := "wait.go:41", after := #[{ on := 12, ground := .data }, { on := 16, ground := .data }], guard := none },
  { dst := some 47, op := .build 38 #[(0, .tmp 37), (1, .tmp 38), (2, .tmp 39), (3, .const (.int .i64 1)), (4, .tmp 46)], type := 38, pos := "wait.go:41", after := #[{ on := 8, ground := .data }, { on := 9, ground := .data }, { on := 10, ground := .data }, { on := 17, ground := .data }], guard := none },
  { dst := some 48, op := .buildSlice 41 1 #[(0, .tmp 47)], type := 41, pos := "wait.go:41", after := #[{ on := 18, ground := .data }], guard := none },
  { dst := some 49, op := .call { callee := .builtin .append, args := #[.tmp 33, .tmp 48], argTypes := #[41, 41] }, type := 41, pos := "wait.go:41", after := #[{ on := 4, ground := .data }, { on := 19, ground := .data }, { on := 12, ground := .chain }], guard := none },
  { dst := some 50, op := .nilCheck (.tmp 29), type := 0, pos := "wait.go:41", after := #[{ on := 0, ground := .data }, { on := 0, ground := .phase }, { on := 1, ground := .phase }, { on := 2, ground := .phase }, { on := 3, ground := .phase }, { on := 4, ground := .phase }, { on := 5, ground := .phase }, { on := 6, ground := .phase }, { on := 7, ground := .phase }, { on := 8, ground := .phase }, { on := 9, ground := .phase }, { on := 10, ground := .phase }, { on := 11, ground := .phase }, { on := 12, ground := .phase }, { on := 13, ground := .phase }, { on := 14, ground := .phase }, { on := 15, ground := .phase }, { on := 16, ground := .phase }, { on := 17, ground := .phase }, { on := 18, ground := .phase }, { on := 19, ground := .phase }, { on := 20, ground := .phase }], guard := none },
  { dst := some 51, op := .fieldAddr 52 (.tmp 50) 4, type := 0, pos := "wait.go:41", after := #[{ on := 21, ground := .data }, { on := 0, ground := .phase }, { on := 1, ground := .phase }, { on := 2, ground := .phase }, { on := 3, ground := .phase }, { on := 4, ground := .phase }, { on := 5, ground := .phase }, { on := 6, ground := .phase }, { on := 7, ground := .phase }, { on := 8, ground := .phase }, { on := 9, ground := .phase }, { on := 10, ground := .phase }, { on := 11, ground := .phase }, { on := 12, ground := .phase }, { on := 13, ground := .phase }, { on := 14, ground := .phase }, { on := 15, ground := .phase }, { on := 16, ground := .phase }, { on := 17, ground := .phase }, { on := 18, ground := .phase }, { on := 19, ground := .phase }, { on := 20, ground := .phase }], guard := none },
  { dst := none, op := .store 41 (.tmp 51) (.tmp 49), type := 0, pos := "wait.go:41", after := #[{ on := 22, ground := .data }, { on := 20, ground := .data }, { on := 20, ground := .chain }, { on := 0, ground := .phase }, { on := 1, ground := .phase }, { on := 2, ground := .phase }, { on := 3, ground := .phase }, { on := 4, ground := .phase }, { on := 5, ground := .phase }, { on := 6, ground := .phase }, { on := 7, ground := .phase }, { on := 8, ground := .phase }, { on := 9, ground := .phase }, { on := 10, ground := .phase }, { on := 11, ground := .phase }, { on := 12, ground := .phase }, { on := 13, ground := .phase }, { on := 14, ground := .phase }, { on := 15, ground := .phase }, { on := 16, ground := .phase }, { on := 17, ground := .phase }, { on := 18, ground := .phase }, { on := 19, ground := .phase }, { on := 20, ground := .phase }], guard := none }]
def wa6_D : List Nat := [29, 30, 31, 32, 33, 34, 35, 36, 37, 38, 39, 40, 41, 42, 43, 44, 45, 46, 47, 48, 49, 50, 51]
def wa6_V (g B H : Nat) (L : List Int) (c : AskM) (s i t : Int) (now cl : Int) (vv : Value) (C : List AskM) (j : Nat) (v : Value) (w : World) : Prop :=
  match j with
  | 0 => v = .pointer (some ⟨g, 0, none⟩)
  | 1 => v = .pointer (some ⟨g, 0, none⟩)
  | 2 => v = .pointer (some ⟨g, 0, none⟩)
  | 3 => v = .pointer (some ⟨g, 4, none⟩)
  | 4 => v = vv
  | 5 => v = .pointer (some ⟨g, 0, none⟩)
  | 6 => v = .pointer (some ⟨g, 0, none⟩)
  | 7 => v = .pointer (some ⟨g, 3, none⟩)
  | 8 => v = .int .i64 s
  | 9 => v = .int .i64 i
  | 10 => v = .agg (hv L)
  | 11 => v = .int .i64 now
  | 12 => v = .int .i64 cl
  | 13 => v = .pointer (some ⟨g, 0, none⟩)
  | 14 => v = .pointer (some ⟨g, 0, none⟩)
  | 15 => v = .pointer (some ⟨g, 2, none⟩)
  | 16 => v = .int .i64 t
  | 17 => v = .int .i64 (cl + t)
  | 18 => v = .agg (askV c)
  | 19 => ∃ k, v = .slice (some ⟨k, 0, none⟩) 1 1 ∧ H ≤ k ∧ w.heap[k]? = some (.cells (askV c) 38 (0, 0))
  | 20 => AsksAt B w v (C ++ [c]) ∧ (v.ownBlock = vv.ownBlock ∨ ∀ k, v.ownBlock = some k → H ≤ k)
  | 21 => v = .pointer (some ⟨g, 0, none⟩)
  | 22 => v = .pointer (some ⟨g, 4, none⟩)
  | _ => True
theorem wa6_mono (g B H : Nat) (L : List Int) (c : AskM) (s i t : Int) (now cl : Int) (vv : Value) (C : List AskM) : ∀ j v w w', wa6_V g B H L c s i t now cl vv C j v w → Below w.heap.size w w' → wa6_V g B H L c s i t now cl vv C j v w' := by
  intro j v w w' h hb
  revert h
  unfold wa6_V
  split <;> intro h <;> first
    | exact h
    | (obtain ⟨k, h1, h2, h3⟩ := h
       exact ⟨k, h1, h2, (hb.block k (Array.getElem?_eq_some_iff.1 h3).1).trans h3⟩)
    | exact ⟨h.1.below hb, h.2⟩
set_option maxHeartbeats 8000000 in
theorem wa6_region {id : Nat} {Q : Exit → Act → World → Prop} {a0 : Act} {w0 : World} (hs : 56 ≤ a0.tmps.size) (g p B : Nat) (L : List Int) (hL : L.length = 13) (s i t now cl : Int) (c : AskM) (hc : c = ⟨s, i, L, 1, cl + t⟩) (vv : Value) (C : List AskM) (cs : Array Value)
    (ho0 : a0.eval (.tmp 0) = .pointer (some ⟨g, 0, none⟩)) (ho1 : a0.eval (.tmp 1) = .int .i64 i) (ho3 : a0.eval (.tmp 3) = .int .i64 now) (ho6 : a0.eval (.tmp 6) = .pointer (some ⟨p, 0, none⟩))
    (hg : w0.heap[g]? = some (.cells cs 52 (0, 0))) (hc2 : cs[2]? = some (.int .i64 t)) (hc3 : cs[3]? = some (.int .i64 s)) (hc4 : cs[4]? = some (vv)) (hp : w0.heap[p]? = some (.cells (hv L) 32 (0, 0)))
    (hcl : ∀ W, Calls Try.prog 22 #[.int .i64 now] W fun e w' => e = .returned (.int .i64 cl) ∧ w' = W) (hwt : IntKind.i64.wrap (cl + t) = cl + t) (hrow : AsksAt B w0 vv C) (hB : B ≤ w0.heap.size) (hlen : C.length ≤ 100000)
    (hK : ∀ y w' u, Kept (rowX vv) w0 w' → AsksAt B w' u (C ++ [c]) → (u.ownBlock = vv.ownBlock ∨ ∀ k, u.ownBlock = some k → w0.heap.size ≤ k) → Q .normal (putsD wa6_D y a0) (w'.setCell ⟨g, 4, none⟩ u)) : (Code.region id wa6_ops.toArray true).wp Try.prog Q a0 w0 := by
  have hDs : ∀ d ∈ wa6_D, d < a0.tmps.size := fun d hd => by
    have : d < 56 := by
      revert hd; unfold wa6_D; intro hd
      simp only [List.mem_cons, List.not_mem_nil, or_false] at hd
      omega
    omega
  have fa2 : ∀ W, (Instr.fieldAt 52 (.pointer (some ⟨g, 0, none⟩)) 2).run Try.prog W = .ok (.pointer (some ⟨g, 2, none⟩)) W := fun W => by simp [go_sem]
  have fa3 : ∀ W, (Instr.fieldAt 52 (.pointer (some ⟨g, 0, none⟩)) 3).run Try.prog W = .ok (.pointer (some ⟨g, 3, none⟩)) W := fun W => by simp [go_sem]
  have fa4 : ∀ W, (Instr.fieldAt 52 (.pointer (some ⟨g, 0, none⟩)) 4).run Try.prog W = .ok (.pointer (some ⟨g, 4, none⟩)) W := fun W => by simp [go_sem]
  have cf : ∀ vs W, (callFunc 22 vs).run Try.prog W = .ok (.enter 22 vs) W := fun vs W => by have hf := Try.func22; simp [go_sem]
  have nrg : ¬ rowX vv g := own_tyK hrow hg (by decide)
  have nrp : ¬ rowX vv p := own_tyK hrow hp (by decide)
  have frm : ∀ w, Kept (rowX vv) w0 w → w.heap[g]? = some (.cells cs 52 (0, 0)) ∧ w.heap[p]? = some (.cells (hv L) 32 (0, 0)) ∧ w0.heap.size ≤ w.heap.size := fun w h => ⟨h.heap hg nrg, h.heap hp nrp, h.size⟩
  have frb : ∀ (b : Bool) (w : World), (if b then Kept (rowX vv) w0 w else Below w0.heap.size w0 w) → Kept (rowX vv) w0 w := fun b w h => by
    cases b with
    | true => exact h
    | false => exact Kept.of_below h
  refine region_midT 23 20 (wa6_V g B w0.heap.size L c s i t now cl vv C) (fun b w => if b then Kept (rowX vv) w0 w else Below w0.heap.size w0 w) wa6_D (by kernel_rfl) (by decide) rfl (by kernel_rfl) (by decide) hDs (by kernel_rfl) (by kernel_rfl) (wa6_mono g B w0.heap.size L c s i t now cl vv C) ?_ ?_ ?_ ?_ ?_
  · intro b w w' h hb
    cases b with
    | true => exact Kept.add h hb
    | false => exact Below.trans h (hb.mono (Below.size h))
  · exact (Below.refl _ _).drew
  · intro j o ho hj hjm b a w h
    have kw := frm w (frb b w h.wld)
    have kws := kw.2.2
    rcases (show j = 0 ∨ j = 1 ∨ j = 2 ∨ j = 3 ∨ j = 4 ∨ j = 5 ∨ j = 6 ∨ j = 7 ∨ j = 8 ∨ j = 9 ∨ j = 10 ∨ j = 11 ∨ j = 12 ∨ j = 13 ∨ j = 14 ∨ j = 15 ∨ j = 16 ∨ j = 17 ∨ j = 18 ∨ j = 19 ∨ j = 21 ∨ j = 22 by omega) with rfl | rfl | rfl | rfl | rfl | rfl | rfl | rfl | rfl | rfl | rfl | rfl | rfl | rfl | rfl | rfl | rfl | rfl | rfl | rfl | rfl | rfl
    · obtain rfl := Option.some.inj ho
      have f0 : a.eval (.tmp 0) = .pointer (some ⟨g, 0, none⟩) := (h.other 0 (by decide)).trans ho0
      exact iv_val rfl rfl _ (run_moveOp rfl _ _ _ f0) rfl
    · obtain rfl := Option.some.inj ho
      have f0 : a.eval (.tmp 0) = .pointer (some ⟨g, 0, none⟩) := (h.other 0 (by decide)).trans ho0
      exact iv_val rfl rfl _ (run_moveOp rfl _ _ _ f0) rfl
    · obtain rfl := Option.some.inj ho
      have f0 : a.eval (.tmp 30) = .pointer (some ⟨g, 0, none⟩) := h.has ⟨1, .data⟩ (by simp) rfl _ 30 rfl rfl
      exact iv_val rfl rfl _ (run_nilOpM rfl _ _ _ f0) rfl
    · obtain rfl := Option.some.inj ho
      have f0 : a.eval (.tmp 31) = .pointer (some ⟨g, 0, none⟩) := h.has ⟨2, .data⟩ (by simp) rfl _ 31 rfl rfl
      exact iv_val rfl rfl _ (run_fieldOp rfl _ _ _ ((congrArg (fun y => (Instr.fieldAt 52 y 4).run Try.prog w) f0).trans (fa4 w))) rfl
    · obtain rfl := Option.some.inj ho
      have f0 : a.eval (.tmp 32) = .pointer (some ⟨g, 4, none⟩) := h.has ⟨3, .data⟩ (by simp) rfl _ 32 rfl rfl
      exact iv_val rfl rfl _ (run_loadOp rfl _ _ _ _ f0 (load_cell (e := 38) Try.underlying41 _ _ _ (by rw [cell_of_row _ _ _ _ _ _ kw.1]; exact hc4))) rfl
    · obtain rfl := Option.some.inj ho
      have f0 : a.eval (.tmp 0) = .pointer (some ⟨g, 0, none⟩) := (h.other 0 (by decide)).trans ho0
      exact iv_val rfl rfl _ (run_moveOp rfl _ _ _ f0) rfl
    · obtain rfl := Option.some.inj ho
      have f0 : a.eval (.tmp 34) = .pointer (some ⟨g, 0, none⟩) := h.has ⟨5, .data⟩ (by simp) rfl _ 34 rfl rfl
      exact iv_val rfl rfl _ (run_nilOpM rfl _ _ _ f0) rfl
    · obtain rfl := Option.some.inj ho
      have f0 : a.eval (.tmp 35) = .pointer (some ⟨g, 0, none⟩) := h.has ⟨6, .data⟩ (by simp) rfl _ 35 rfl rfl
      exact iv_val rfl rfl _ (run_fieldOp rfl _ _ _ ((congrArg (fun y => (Instr.fieldAt 52 y 3).run Try.prog w) f0).trans (fa3 w))) rfl
    · obtain rfl := Option.some.inj ho
      have f0 : a.eval (.tmp 36) = .pointer (some ⟨g, 3, none⟩) := h.has ⟨7, .data⟩ (by simp) rfl _ 36 rfl rfl
      exact iv_val rfl rfl _ (run_loadOp rfl _ _ _ _ f0 (load_intM _ _ _ (by rw [cell_of_row _ _ _ _ _ _ kw.1]; exact hc3))) rfl
    · obtain rfl := Option.some.inj ho
      have f0 : a.eval (.tmp 1) = .int .i64 i := (h.other 1 (by decide)).trans ho1
      exact iv_val rfl rfl _ (run_moveOp rfl _ _ _ f0) rfl
    · obtain rfl := Option.some.inj ho
      have f0 : a.eval (.tmp 6) = .pointer (some ⟨p, 0, none⟩) := (h.other 6 (by decide)).trans ho6
      exact iv_val rfl rfl _ (run_loadOp rfl _ _ _ _ f0 (load_hdrM hL _ _ kw.2.1)) rfl
    · obtain rfl := Option.some.inj ho
      have f0 : a.eval (.tmp 3) = .int .i64 now := (h.other 3 (by decide)).trans ho3
      exact iv_val rfl rfl _ (run_moveOp rfl _ _ _ f0) rfl
    · obtain rfl := Option.some.inj ho
      have f0 : a.eval (.tmp 40) = .int .i64 now := h.has ⟨11, .data⟩ (by simp) rfl _ 40 rfl rfl
      exact iv_call rfl rfl 22 #[.int .i64 now] (run_callOp rfl cf _ _ _ f0) ((hcl w).mono fun e w1 hh => ⟨_, hh.1, by rw [hh.2]; exact Below.refl _ _, rfl⟩)
    · obtain rfl := Option.some.inj ho
      have f0 : a.eval (.tmp 0) = .pointer (some ⟨g, 0, none⟩) := (h.other 0 (by decide)).trans ho0
      exact iv_val rfl rfl _ (run_moveOp rfl _ _ _ f0) rfl
    · obtain rfl := Option.some.inj ho
      have f0 : a.eval (.tmp 42) = .pointer (some ⟨g, 0, none⟩) := h.has ⟨13, .data⟩ (by simp) rfl _ 42 rfl rfl
      exact iv_val rfl rfl _ (run_nilOpM rfl _ _ _ f0) rfl
    · obtain rfl := Option.some.inj ho
      have f0 : a.eval (.tmp 43) = .pointer (some ⟨g, 0, none⟩) := h.has ⟨14, .data⟩ (by simp) rfl _ 43 rfl rfl
      exact iv_val rfl rfl _ (run_fieldOp rfl _ _ _ ((congrArg (fun y => (Instr.fieldAt 52 y 2).run Try.prog w) f0).trans (fa2 w))) rfl
    · obtain rfl := Option.some.inj ho
      have f0 : a.eval (.tmp 44) = .pointer (some ⟨g, 2, none⟩) := h.has ⟨15, .data⟩ (by simp) rfl _ 44 rfl rfl
      exact iv_val rfl rfl _ (run_loadOp rfl _ _ _ _ f0 (load_intM _ _ _ (by rw [cell_of_row _ _ _ _ _ _ kw.1]; exact hc2))) rfl
    · obtain rfl := Option.some.inj ho
      have f0 : a.eval (.tmp 41) = .int .i64 cl := h.has ⟨12, .data⟩ (by simp) rfl _ 41 rfl rfl
      have f1 : a.eval (.tmp 45) = .int .i64 t := h.has ⟨16, .data⟩ (by simp) rfl _ 45 rfl rfl
      exact iv_val rfl rfl _ (run_addM rfl _ _ _ _ f0 f1 hwt) rfl
    · obtain rfl := Option.some.inj ho
      have b0 : a.eval (.tmp 37) = .int .i64 s := h.has ⟨8, .data⟩ (by simp) rfl _ 37 rfl rfl
      have b1 : a.eval (.tmp 38) = .int .i64 i := h.has ⟨9, .data⟩ (by simp) rfl _ 38 rfl rfl
      have b2 : a.eval (.tmp 39) = .agg (hv L) := h.has ⟨10, .data⟩ (by simp) rfl _ 39 rfl rfl
      have b4 : a.eval (.tmp 46) = .int .i64 (cl + t) := h.has ⟨17, .data⟩ (by simp) rfl _ 46 rfl rfl
      exact iv_val rfl rfl _ (run_buildOpM rfl _ _ #[(0, .int .i64 s), (1, .int .i64 i), (2, .agg (hv L)), (3, .int .i64 1), (4, .int .i64 (cl + t))] (by simp only [List.map_toArray, List.map_cons, List.map_nil, b0, b1, b2, b4]; rfl) _ (by rw [hc]; exact build_ask s i (cl + t) hL w)) rfl
    · obtain rfl := Option.some.inj ho
      have f0 : a.eval (.tmp 47) = .agg (askV c) := h.has ⟨18, .data⟩ (by simp) rfl _ 47 rfl rfl
      refine iv_list rfl ?_
      refine wl_buildE (E := AskE) AskOk rfl _ rfl (askV c) rfl f0 ?_
      exact ⟨_, rfl, (Below.refl _ _).alloc (Nat.le_refl _) _, fun _ _ => ⟨_, rfl, kws, heap_new _ _ _ rfl⟩⟩
    · obtain rfl := Option.some.inj ho
      have f0 : a.eval (.tmp 29) = .pointer (some ⟨g, 0, none⟩) := h.has ⟨0, .data⟩ (by simp) rfl _ 29 rfl rfl
      exact iv_val rfl rfl _ (run_nilOpM rfl _ _ _ f0) rfl
    · obtain rfl := Option.some.inj ho
      have f0 : a.eval (.tmp 50) = .pointer (some ⟨g, 0, none⟩) := h.has ⟨21, .data⟩ (by simp) rfl _ 50 rfl rfl
      exact iv_val rfl rfl _ (run_fieldOp rfl _ _ _ ((congrArg (fun y => (Instr.fieldAt 52 y 4).run Try.prog w) f0).trans (fa4 w))) rfl
  · intro o ho a w h
    obtain rfl := Option.some.inj ho
    have hb : Below w0.heap.size w0 w := h.wld
    have g1 : a.eval (.tmp 33) = vv := h.has ⟨4, .data⟩ (by simp) rfl _ 33 rfl rfl
    obtain ⟨k, g2, g3, g4⟩ : ∃ k, a.eval (.tmp 48) = .slice (some ⟨k, 0, none⟩) 1 1 ∧ w0.heap.size ≤ k ∧ w.heap[k]? = some (.cells (askV c) 38 (0, 0)) := h.has ⟨19, .data⟩ (by simp) rfl _ 48 rfl rfl
    have hown : AsksAt B w vv C := hrow.below hb
    refine wpOp_of_list rfl ?_
    refine wl_appK rfl _ _ rfl B vv C c g1 hown k 1 g2 g4 (by omega) (Nat.le_trans hB hb.size) ?_
    intro v' w3 hown3 hgr3 hq3
    have k3 : Kept (rowX vv) w0 w3 := (Kept.of_below hb).trans (Kept.of_grown hgr3 fun k e => e) fun k e => .inl e
    refine ⟨v', rfl, k3, ?_, fun _ _ => ⟨hown3, ?_⟩⟩
    · intro j z hj
      unfold wa6_V
      split <;> intro hz <;> first
        | exact hz
        | exact absurd rfl hj
        | (obtain ⟨k, q1, q2, q3⟩ := hz
           exact ⟨k, q1, q2, (hgr3.block k (Array.getElem?_eq_some_iff.1 q3).1 (fun hq => by have := (hrow.lt k hq.symm).2; omega)).trans q3⟩)
    · rcases hq3 with e | e
      · exact .inl e
      · exact .inr fun k e' => by rw [e] at e'; have := Option.some.inj e'; have := hb.size; omega
  · intro a w hI hsz hdf hot hh
    have kw : Kept (rowX vv) w0 w := hI
    have hvm : wa6_V g B w0.heap.size L c s i t now cl vv C 20 (a.eval (.tmp 49)) w := hh 20 _ 49 (by decide) rfl rfl
    obtain ⟨q1, q2⟩ := hvm
    have q3 : a.eval (.tmp 51) = .pointer (some ⟨g, 4, none⟩) := hh 22 _ 51 (by decide) rfl rfl
    obtain ⟨v', hv'⟩ : ∃ v', a.eval (.tmp 49) = v' := ⟨_, rfl⟩
    rw [hv'] at q1 q2
    obtain ⟨o3, cap3, hv3⟩ := gown_slice q1
    have c3 : w.cell? ⟨g, 4, none⟩ = some vv := by rw [cell_of_row _ _ _ _ _ _ (frm w kw).1]; exact hc4
    have hst : (Instr.storeAt 41 (.pointer (some ⟨g, 4, none⟩)) v').run Try.prog w = .ok () (w.setCell ⟨g, 4, none⟩ v') := store_cell (ty := 41) (fun W => Try.sizeOf41 W) w ⟨g, 4, none⟩ v' vv ⟨o3, _, cap3, hv3⟩ c3 (tc_frozen (frm w kw).1 rfl)
    refine wpOp_skip0 (w' := w.setCell ⟨g, 4, none⟩ v') rfl rfl (run_storeOp rfl _ _ _ _ _ q3 hv' hst) rfl ?_
    show Q .normal a (w.setCell ⟨g, 4, none⟩ v')
    rw [puts_form hsz hdf hot hDs]
    exact hK _ w v' kw q1 q2
def ra4_ops : List Oper := [
  { dst := some 25, op := .move (.tmp 0), type := 28, pos := "ref.go:43", after := #[], guard := none },
  { dst := some 26, op := .move (.tmp 0), type := 28, pos := "ref.go:43", after := #[], guard := none },
  { dst := some 27, op := .nilCheck (.tmp 26), type := 0, pos := "ref.go:43", after := #[{ on := 1, ground := .data }], guard := none },
  { dst := some 28, op := .fieldAddr 55 (.tmp 27) 0, type := 0, pos := "ref.go:43", after := #[{ on := 2, ground := .data }], guard := none },
  { dst := some 29, op := .load 41 (.tmp 28), type := 41, pos := "ref.go:43", after := #[{ on := 3, ground := .data }], guard := none },
  { dst := some 30, op := .move (.tmp 10), type := 3, pos := "ref.go:43", after := #[], guard := none },
  { dst := some 31, op := .move (.tmp 1), type := 3, pos := "ref.go:43", after := #[], guard := none },
  { dst := some 32, op := .load 32 (.tmp 6), type := 32, pos := "ref.go:43", after := #[], guard := none },
  { dst := some 33, op := .move (.tmp 3), type := 3, pos := "ref.go:43", after := #[], guard := none },
  { dst := some 34, op := .call { callee := .value (.func 23), args := #[.tmp 33], argTypes := #[3] }, type := 3, pos := "ref.go:43", after := #[{ on := 8, ground := .data }], guard := none },
  { dst := some 35, op := .move (.tmp 0), type := 28, pos := "ref.go:43", after := #[], guard := none },
  { dst := some 36, op := .nilCheck (.tmp 35), type := 0, pos := "ref.go:43", after := #[{ on := 10, ground := .data }], guard := none },
  { dst := some 37, op := .fieldAddr 55 (.tmp 36) 4, type := 0, pos := "ref.go:43", after := #[{ on := 11, ground := .data }], guard := none },
  { dst := some 38, op := .load 3 (.tmp 37), type := 3, pos := "ref.go:43", after := #[{ on := 12, ground := .data }], guard := none },
  { dst := some 39, op := .binOp .add 3 (.tmp 34) (.tmp 38) 3, type := 3, pos := "ref.go:43", after := #[{ on := 9, ground := .data }, { on := 13, ground := .data }], guard := none },
  { dst := some 40, op := .build 38 #[(0, .tmp 30), (1, .tmp 31), (2, .tmp 32), (3, .const (.int .i64 1)), (4, .tmp 39)], type := 38, pos := "ref.go:43", after := #[{ on := 5, ground := .data }, { on := 6, ground := .data }, { on := 7, ground := .data }, { on := 14, ground := .data }], guard := none },
  { dst := some 41, op := .buildSlice 41 1 #[(0, .tmp 40)], type := 41, pos := "ref.go:43", after := #[{ on := 15, ground := .data }], guard := none },
  { dst := some 42, op := .call { callee := .builtin .append, args := #[.tmp 29, .tmp 41], argTypes := #[41, 41] }, type := 41, pos := "ref.go:43", after := #[{ on := 4, ground := .data }, { on := 16, ground := .data }, { on := 9, ground := .chain }], guard := none },
  { dst := some 43, op := .nilCheck (.tmp 25), type := 0, pos := "ref.go:43", after := #[{ on := 0, ground := .data }, { on := 0, ground := .phase }, { on := 1, ground := .phase }, { on := 2, ground := .phase }, { on := 3, ground := .phase }, { on := 4, ground := .phase }, { on := 5, ground := .phase }, { on := 6, ground := .phase }, { on := 7, ground := .phase }, { on := 8, ground := .phase }, { on := 9, ground := .phase }, { on := 10, ground := .phase }, { on := 11, ground := .phase }, { on := 12, ground := .phase }, { on := 13, ground := .phase }, { on := 14, ground := .phase }, { on := 15, ground := .phase }, { on := 16, ground := .phase }, { on := 17, ground := .phase }], guard := none },
  { dst := some 44, op := .fieldAddr 55 (.tmp 43) 0, type := 0, pos := "ref.go:43", after := #[{ on := 18, ground := .data }, { on := 0, ground := .phase }, { on := 1, ground := .phase }, { on := 2, ground := .phase }, { on := 3, ground := .phase }, { on := 4, ground := .phase }, { on := 5, ground := .phase }, { on := 6, ground := .phase }, { on := 7, ground := .phase }, { on := 8, ground := .phase }, { on := 9, ground := .phase }, { on := 10, ground := .phase }, { on := 11, ground := .phase }, { on := 12, ground := .phase }, { on := 13, ground := .phase }, { on := 14, ground := .phase }, { on := 15, ground := .phase }, { on := 16, ground := .phase }, { on := 17, ground := .phase }], guard := none },
  { dst := none, op := .store 41 (.tmp 44) (.tmp 42), type := 0, pos := "ref.go:43", after := #[{ on := 19, ground := .data }, { on := 17, ground := .data }, { on := 17, ground := .chain }, { on := 0, ground := .phase }, { on := 1, ground := .phase }, { on := 2, ground := .phase }, { on := 3, ground := .phase }, { on := 4, ground := .phase }, { on := 5, ground := .phase }, { on := 6, ground := .phase }, { on := 7, ground := .phase }, { on := 8, ground := .phase }, { on := 9, ground := .phase }, { on := 10, ground := .phase }, { on := 11, ground := .phase }, { on := 12, ground := .phase }, { on := 13, ground := .phase }, { on := 14, ground := .phase }, { on := 15, ground := .phase }, { on := 16, ground := .phase }, { on := 17, ground := .phase }], guard := none }]
def ra4_D : List Nat := [25, 26, 27, 28, 29, 30, 31, 32, 33, 34, 35, 36, 37, 38, 39, 40, 41, 42, 43, 44]
def ra4_V (g B H : Nat) (L : List Int) (c : AskM) (s i t : Int) (now cl : Int) (vv : Value) (C : List AskM) (j : Nat) (v : Value) (w : World) : Prop :=
  match j with
  | 0 => v = .pointer (some ⟨g, 0, none⟩)
  | 1 => v = .pointer (some ⟨g, 0, none⟩)
  | 2 => v = .pointer (some ⟨g, 0, none⟩)
  | 3 => v = .pointer (some ⟨g, 0, none⟩)
  | 4 => v = vv
  | 5 => v = .int .i64 s
  | 6 => v = .int .i64 i
  | 7 => v = .agg (hv L)
  | 8 => v = .int .i64 now
  | 9 => v = .int .i64 cl
  | 10 => v = .pointer (some ⟨g, 0, none⟩)
  | 11 => v = .pointer (some ⟨g, 0, none⟩)
  | 12 => v = .pointer (some ⟨g, 4, none⟩)
  | 13 => v = .int .i64 t
  | 14 => v = .int .i64 (cl + t)
  | 15 => v = .agg (askV c)
  | 16 => ∃ k, v = .slice (some ⟨k, 0, none⟩) 1 1 ∧ H ≤ k ∧ w.heap[k]? = some (.cells (askV c) 38 (0, 0))
  | 17 => AsksAt B w v (C ++ [c]) ∧ (v.ownBlock = vv.ownBlock ∨ ∀ k, v.ownBlock = some k → H ≤ k)
  | 18 => v = .pointer (some ⟨g, 0, none⟩)
  | 19 => v = .pointer (some ⟨g, 0, none⟩)
  | _ => True
theorem ra4_mono (g B H : Nat) (L : List Int) (c : AskM) (s i t : Int) (now cl : Int) (vv : Value) (C : List AskM) : ∀ j v w w', ra4_V g B H L c s i t now cl vv C j v w → Below w.heap.size w w' → ra4_V g B H L c s i t now cl vv C j v w' := by
  intro j v w w' h hb
  revert h
  unfold ra4_V
  split <;> intro h <;> first
    | exact h
    | (obtain ⟨k, h1, h2, h3⟩ := h
       exact ⟨k, h1, h2, (hb.block k (Array.getElem?_eq_some_iff.1 h3).1).trans h3⟩)
    | exact ⟨h.1.below hb, h.2⟩
set_option maxHeartbeats 8000000 in
theorem ra4_region {id : Nat} {Q : Exit → Act → World → Prop} {a0 : Act} {w0 : World} (hs : 55 ≤ a0.tmps.size) (g p B : Nat) (L : List Int) (hL : L.length = 13) (s i t now cl : Int) (c : AskM) (hc : c = ⟨s, i, L, 1, cl + t⟩) (vv : Value) (C : List AskM) (cs : Array Value)
    (ho0 : a0.eval (.tmp 0) = .pointer (some ⟨g, 0, none⟩)) (ho1 : a0.eval (.tmp 1) = .int .i64 i) (ho3 : a0.eval (.tmp 3) = .int .i64 now) (ho6 : a0.eval (.tmp 6) = .pointer (some ⟨p, 0, none⟩)) (ho10 : a0.eval (.tmp 10) = .int .i64 s)
    (hg : w0.heap[g]? = some (.cells cs 55 (0, 0))) (hc0 : cs[0]? = some (vv)) (hc4 : cs[4]? = some (.int .i64 t)) (hp : w0.heap[p]? = some (.cells (hv L) 32 (0, 0)))
    (hcl : ∀ W, Calls Try.prog 23 #[.int .i64 now] W fun e w' => e = .returned (.int .i64 cl) ∧ w' = W) (hwt : IntKind.i64.wrap (cl + t) = cl + t) (hrow : AsksAt B w0 vv C) (hB : B ≤ w0.heap.size) (hlen : C.length ≤ 100000)
    (hK : ∀ y w' u, Kept (rowX vv) w0 w' → AsksAt B w' u (C ++ [c]) → (u.ownBlock = vv.ownBlock ∨ ∀ k, u.ownBlock = some k → w0.heap.size ≤ k) → Q .normal (putsD ra4_D y a0) (w'.setCell ⟨g, 0, none⟩ u)) : (Code.region id ra4_ops.toArray true).wp Try.prog Q a0 w0 := by
  have hDs : ∀ d ∈ ra4_D, d < a0.tmps.size := fun d hd => by
    have : d < 55 := by
      revert hd; unfold ra4_D; intro hd
      simp only [List.mem_cons, List.not_mem_nil, or_false] at hd
      omega
    omega
  have fa0 : ∀ W, (Instr.fieldAt 55 (.pointer (some ⟨g, 0, none⟩)) 0).run Try.prog W = .ok (.pointer (some ⟨g, 0, none⟩)) W := fun W => by simp [go_sem]
  have fa4 : ∀ W, (Instr.fieldAt 55 (.pointer (some ⟨g, 0, none⟩)) 4).run Try.prog W = .ok (.pointer (some ⟨g, 4, none⟩)) W := fun W => by simp [go_sem]
  have cf : ∀ vs W, (callFunc 23 vs).run Try.prog W = .ok (.enter 23 vs) W := fun vs W => by have hf := Try.func23; simp [go_sem]
  have nrg : ¬ rowX vv g := own_tyK hrow hg (by decide)
  have nrp : ¬ rowX vv p := own_tyK hrow hp (by decide)
  have frm : ∀ w, Kept (rowX vv) w0 w → w.heap[g]? = some (.cells cs 55 (0, 0)) ∧ w.heap[p]? = some (.cells (hv L) 32 (0, 0)) ∧ w0.heap.size ≤ w.heap.size := fun w h => ⟨h.heap hg nrg, h.heap hp nrp, h.size⟩
  have frb : ∀ (b : Bool) (w : World), (if b then Kept (rowX vv) w0 w else Below w0.heap.size w0 w) → Kept (rowX vv) w0 w := fun b w h => by
    cases b with
    | true => exact h
    | false => exact Kept.of_below h
  refine region_midT 20 17 (ra4_V g B w0.heap.size L c s i t now cl vv C) (fun b w => if b then Kept (rowX vv) w0 w else Below w0.heap.size w0 w) ra4_D (by kernel_rfl) (by decide) rfl (by kernel_rfl) (by decide) hDs (by kernel_rfl) (by kernel_rfl) (ra4_mono g B w0.heap.size L c s i t now cl vv C) ?_ ?_ ?_ ?_ ?_
  · intro b w w' h hb
    cases b with
    | true => exact Kept.add h hb
    | false => exact Below.trans h (hb.mono (Below.size h))
  · exact (Below.refl _ _).drew
  · intro j o ho hj hjm b a w h
    have kw := frm w (frb b w h.wld)
    have kws := kw.2.2
    rcases (show j = 0 ∨ j = 1 ∨ j = 2 ∨ j = 3 ∨ j = 4 ∨ j = 5 ∨ j = 6 ∨ j = 7 ∨ j = 8 ∨ j = 9 ∨ j = 10 ∨ j = 11 ∨ j = 12 ∨ j = 13 ∨ j = 14 ∨ j = 15 ∨ j = 16 ∨ j = 18 ∨ j = 19 by omega) with rfl | rfl | rfl | rfl | rfl | rfl | rfl | rfl | rfl | rfl | rfl | rfl | rfl | rfl | rfl | rfl | rfl | rfl | rfl
    · obtain rfl := Option.some.inj ho
      have f0 : a.eval (.tmp 0) = .pointer (some ⟨g, 0, none⟩) := (h.other 0 (by decide)).trans ho0
      exact iv_val rfl rfl _ (run_moveOp rfl _ _ _ f0) rfl
    · obtain rfl := Option.some.inj ho
      have f0 : a.eval (.tmp 0) = .pointer (some ⟨g, 0, none⟩) := (h.other 0 (by decide)).trans ho0
      exact iv_val rfl rfl _ (run_moveOp rfl _ _ _ f0) rfl
    · obtain rfl := Option.some.inj ho
      have f0 : a.eval (.tmp 26) = .pointer (some ⟨g, 0, none⟩) := h.has ⟨1, .data⟩ (by simp) rfl _ 26 rfl rfl
      exact iv_val rfl rfl _ (run_nilOpM rfl _ _ _ f0) rfl
    · obtain rfl := Option.some.inj ho
      have f0 : a.eval (.tmp 27) = .pointer (some ⟨g, 0, none⟩) := h.has ⟨2, .data⟩ (by simp) rfl _ 27 rfl rfl
      exact iv_val rfl rfl _ (run_fieldOp rfl _ _ _ ((congrArg (fun y => (Instr.fieldAt 55 y 0).run Try.prog w) f0).trans (fa0 w))) rfl
    · obtain rfl := Option.some.inj ho
      have f0 : a.eval (.tmp 28) = .pointer (some ⟨g, 0, none⟩) := h.has ⟨3, .data⟩ (by simp) rfl _ 28 rfl rfl
      exact iv_val rfl rfl _ (run_loadOp rfl _ _ _ _ f0 (load_cell (e := 38) Try.underlying41 _ _ _ (by rw [cell_of_row _ _ _ _ _ _ kw.1]; exact hc0))) rfl
    · obtain rfl := Option.some.inj ho
      have f0 : a.eval (.tmp 10) = .int .i64 s := (h.other 10 (by decide)).trans ho10
      exact iv_val rfl rfl _ (run_moveOp rfl _ _ _ f0) rfl
    · obtain rfl := Option.some.inj ho
      have f0 : a.eval (.tmp 1) = .int .i64 i := (h.other 1 (by decide)).trans ho1
      exact iv_val rfl rfl _ (run_moveOp rfl _ _ _ f0) rfl
    · obtain rfl := Option.some.inj ho
      have f0 : a.eval (.tmp 6) = .pointer (some ⟨p, 0, none⟩) := (h.other 6 (by decide)).trans ho6
      exact iv_val rfl rfl _ (run_loadOp rfl _ _ _ _ f0 (load_hdrM hL _ _ kw.2.1)) rfl
    · obtain rfl := Option.some.inj ho
      have f0 : a.eval (.tmp 3) = .int .i64 now := (h.other 3 (by decide)).trans ho3
      exact iv_val rfl rfl _ (run_moveOp rfl _ _ _ f0) rfl
    · obtain rfl := Option.some.inj ho
      have f0 : a.eval (.tmp 33) = .int .i64 now := h.has ⟨8, .data⟩ (by simp) rfl _ 33 rfl rfl
      exact iv_call rfl rfl 23 #[.int .i64 now] (run_callOp rfl cf _ _ _ f0) ((hcl w).mono fun e w1 hh => ⟨_, hh.1, by rw [hh.2]; exact Below.refl _ _, rfl⟩)
    · obtain rfl := Option.some.inj ho
      have f0 : a.eval (.tmp 0) = .pointer (some ⟨g, 0, none⟩) := (h.other 0 (by decide)).trans ho0
      exact iv_val rfl rfl _ (run_moveOp rfl _ _ _ f0) rfl
    · obtain rfl := Option.some.inj ho
      have f0 : a.eval (.tmp 35) = .pointer (some ⟨g, 0, none⟩) := h.has ⟨10, .data⟩ (by simp) rfl _ 35 rfl rfl
      exact iv_val rfl rfl _ (run_nilOpM rfl _ _ _ f0) rfl
    · obtain rfl := Option.some.inj ho
      have f0 : a.eval (.tmp 36) = .pointer (some ⟨g, 0, none⟩) := h.has ⟨11, .data⟩ (by simp) rfl _ 36 rfl rfl
      exact iv_val rfl rfl _ (run_fieldOp rfl _ _ _ ((congrArg (fun y => (Instr.fieldAt 55 y 4).run Try.prog w) f0).trans (fa4 w))) rfl
    · obtain rfl := Option.some.inj ho
      have f0 : a.eval (.tmp 37) = .pointer (some ⟨g, 4, none⟩) := h.has ⟨12, .data⟩ (by simp) rfl _ 37 rfl rfl
      exact iv_val rfl rfl _ (run_loadOp rfl _ _ _ _ f0 (load_intM _ _ _ (by rw [cell_of_row _ _ _ _ _ _ kw.1]; exact hc4))) rfl
    · obtain rfl := Option.some.inj ho
      have f0 : a.eval (.tmp 34) = .int .i64 cl := h.has ⟨9, .data⟩ (by simp) rfl _ 34 rfl rfl
      have f1 : a.eval (.tmp 38) = .int .i64 t := h.has ⟨13, .data⟩ (by simp) rfl _ 38 rfl rfl
      exact iv_val rfl rfl _ (run_addM rfl _ _ _ _ f0 f1 hwt) rfl
    · obtain rfl := Option.some.inj ho
      have b0 : a.eval (.tmp 30) = .int .i64 s := h.has ⟨5, .data⟩ (by simp) rfl _ 30 rfl rfl
      have b1 : a.eval (.tmp 31) = .int .i64 i := h.has ⟨6, .data⟩ (by simp) rfl _ 31 rfl rfl
      have b2 : a.eval (.tmp 32) = .agg (hv L) := h.has ⟨7, .data⟩ (by simp) rfl _ 32 rfl rfl
      have b4 : a.eval (.tmp 39) = .int .i64 (cl + t) := h.has ⟨14, .data⟩ (by simp) rfl _ 39 rfl rfl
      exact iv_val rfl rfl _ (run_buildOpM rfl _ _ #[(0, .int .i64 s), (1, .int .i64 i), (2, .agg (hv L)), (3, .int .i64 1), (4, .int .i64 (cl + t))] (by simp only [List.map_toArray, List.map_cons, List.map_nil, b0, b1, b2, b4]; rfl) _ (by rw [hc]; exact build_ask s i (cl + t) hL w)) rfl
    · obtain rfl := Option.some.inj ho
      have f0 : a.eval (.tmp 40) = .agg (askV c) := h.has ⟨15, .data⟩ (by simp) rfl _ 40 rfl rfl
      refine iv_list rfl ?_
      refine wl_buildE (E := AskE) AskOk rfl _ rfl (askV c) rfl f0 ?_
      exact ⟨_, rfl, (Below.refl _ _).alloc (Nat.le_refl _) _, fun _ _ => ⟨_, rfl, kws, heap_new _ _ _ rfl⟩⟩
    · obtain rfl := Option.some.inj ho
      have f0 : a.eval (.tmp 25) = .pointer (some ⟨g, 0, none⟩) := h.has ⟨0, .data⟩ (by simp) rfl _ 25 rfl rfl
      exact iv_val rfl rfl _ (run_nilOpM rfl _ _ _ f0) rfl
    · obtain rfl := Option.some.inj ho
      have f0 : a.eval (.tmp 43) = .pointer (some ⟨g, 0, none⟩) := h.has ⟨18, .data⟩ (by simp) rfl _ 43 rfl rfl
      exact iv_val rfl rfl _ (run_fieldOp rfl _ _ _ ((congrArg (fun y => (Instr.fieldAt 55 y 0).run Try.prog w) f0).trans (fa0 w))) rfl
  · intro o ho a w h
    obtain rfl := Option.some.inj ho
    have hb : Below w0.heap.size w0 w := h.wld
    have g1 : a.eval (.tmp 29) = vv := h.has ⟨4, .data⟩ (by simp) rfl _ 29 rfl rfl
    obtain ⟨k, g2, g3, g4⟩ : ∃ k, a.eval (.tmp 41) = .slice (some ⟨k, 0, none⟩) 1 1 ∧ w0.heap.size ≤ k ∧ w.heap[k]? = some (.cells (askV c) 38 (0, 0)) := h.has ⟨16, .data⟩ (by simp) rfl _ 41 rfl rfl
    have hown : AsksAt B w vv C := hrow.below hb
    refine wpOp_of_list rfl ?_
    refine wl_appK rfl _ _ rfl B vv C c g1 hown k 1 g2 g4 (by omega) (Nat.le_trans hB hb.size) ?_
    intro v' w3 hown3 hgr3 hq3
    have k3 : Kept (rowX vv) w0 w3 := (Kept.of_below hb).trans (Kept.of_grown hgr3 fun k e => e) fun k e => .inl e
    refine ⟨v', rfl, k3, ?_, fun _ _ => ⟨hown3, ?_⟩⟩
    · intro j z hj
      unfold ra4_V
      split <;> intro hz <;> first
        | exact hz
        | exact absurd rfl hj
        | (obtain ⟨k, q1, q2, q3⟩ := hz
           exact ⟨k, q1, q2, (hgr3.block k (Array.getElem?_eq_some_iff.1 q3).1 (fun hq => by have := (hrow.lt k hq.symm).2; omega)).trans q3⟩)
    · rcases hq3 with e | e
      · exact .inl e
      · exact .inr fun k e' => by rw [e] at e'; have := Option.some.inj e'; have := hb.size; omega
  · intro a w hI hsz hdf hot hh
    have kw : Kept (rowX vv) w0 w := hI
    have hvm : ra4_V g B w0.heap.size L c s i t now cl vv C 17 (a.eval (.tmp 42)) w := hh 17 _ 42 (by decide) rfl rfl
    obtain ⟨q1, q2⟩ := hvm
    have q3 : a.eval (.tmp 44) = .pointer (some ⟨g, 0, none⟩) := hh 19 _ 44 (by decide) rfl rfl
    obtain ⟨v', hv'⟩ : ∃ v', a.eval (.tmp 42) = v' := ⟨_, rfl⟩
    rw [hv'] at q1 q2
    obtain ⟨o3, cap3, hv3⟩ := gown_slice q1
    have c3 : w.cell? ⟨g, 0, none⟩ = some vv := by rw [cell_of_row _ _ _ _ _ _ (frm w kw).1]; exact hc0
    have hst : (Instr.storeAt 41 (.pointer (some ⟨g, 0, none⟩)) v').run Try.prog w = .ok () (w.setCell ⟨g, 0, none⟩ v') := store_cell (ty := 41) (fun W => Try.sizeOf41 W) w ⟨g, 0, none⟩ v' vv ⟨o3, _, cap3, hv3⟩ c3 (tc_frozen (frm w kw).1 rfl)
    refine wpOp_skip0 (w' := w.setCell ⟨g, 0, none⟩ v') rfl rfl (run_storeOp rfl _ _ _ _ _ q3 hv' hst) rfl ?_
    show Q .normal a (w.setCell ⟨g, 0, none⟩ v')
    rw [puts_form hsz hdf hot hDs]
    exact hK _ w v' kw q1 q2
end Go.Proofs.Ytagogbodkbbikaa
