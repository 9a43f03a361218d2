import Derived.Test.YthddlchkbnmcaaaGreatDoorJ25
import Derived.Test.YthddlchkbnmcaaaGreatDoorJ20
namespace Go.Proofs.YthddlchkbnmcaaaGreatDoor
open Go Go.RowKit
set_option maxRecDepth 20000

def chk6_ops : List Oper := [
  { dst := some 19, op := .move (.tmp 9), type := 3, pos := "sense.go:25", after := #[], guard := none },
  { dst := some 20, op := .binOp .geq 3 (.tmp 19) (.const (.int .i64 64)) 3, type := 4, pos := "sense.go:25", after := #[{ on := 0, ground := .data }], guard := none },
  { dst := some 21, op := .fieldAddr 92 (.tmp 10) 0, type := 0, pos := "sense.go:25", after := #[], guard := none },
  { dst := some 22, op := .load 3 (.tmp 21), type := 3, pos := "sense.go:25", after := #[{ on := 2, ground := .data }], guard := none },
  { dst := some 23, op := .call { callee := .value (.func 46), args := #[.tmp 20, .const (.int .i64 4), .tmp 22], argTypes := #[4, 25, 3] }, type := 94, pos := "sense.go:26", after := #[{ on := 1, ground := .data }, { on := 3, ground := .data }], guard := none },
  { dst := some 24, op := .move (.tmp 8), type := 4, pos := "sense.go:25", after := #[], guard := none },
  { dst := some 25, op := .move (.tmp 24), type := 4, pos := "sense.go:25", after := #[{ on := 5, ground := .data }, { on := 4, ground := .chain }], guard := none },
  { dst := some 26, op := .fieldAddr 92 (.tmp 10) 1, type := 0, pos := "sense.go:25", after := #[{ on := 6, ground := .guard }], guard := some (6, true) },
  { dst := some 27, op := .load 4 (.tmp 26), type := 4, pos := "sense.go:25", after := #[{ on := 7, ground := .data }, { on := 6, ground := .guard }], guard := some (6, true) },
  { dst := some 28, op := .pick (.tmp 25) (.tmp 27) (.const (.bool false)), type := 4, pos := "sense.go:25", after := #[{ on := 6, ground := .data }, { on := 8, ground := .data }], guard := none },
  { dst := some 29, op := .fieldAddr 92 (.tmp 10) 0, type := 0, pos := "sense.go:25", after := #[], guard := none },
  { dst := some 30, op := .load 3 (.tmp 29), type := 3, pos := "sense.go:25", after := #[{ on := 10, ground := .data }], guard := none },
  { dst := some 31, op := .call { callee := .value (.func 46), args := #[.tmp 28, .const (.int .i64 9), .tmp 30], argTypes := #[4, 25, 3] }, type := 94, pos := "sense.go:27", after := #[{ on := 9, ground := .data }, { on := 11, ground := .data }, { on := 6, ground := .chain }], guard := none },
  { dst := some 32, op := .load 92 (.tmp 10), type := 92, pos := "sense.go:25", after := #[], guard := none },
  { dst := some 33, op := .call { callee := .value (.func 47), args := #[.tmp 32], argTypes := #[92] }, type := 94, pos := "sense.go:28", after := #[{ on := 13, ground := .data }, { on := 12, ground := .chain }], guard := none },
  { dst := some 34, op := .load 92 (.tmp 10), type := 92, pos := "sense.go:25", after := #[], guard := none },
  { dst := some 35, op := .call { callee := .value (.func 48), args := #[.tmp 34], argTypes := #[92] }, type := 94, pos := "sense.go:29", after := #[{ on := 15, ground := .data }, { on := 14, ground := .chain }], guard := none },
  { dst := some 36, op := .buildSlice 124 4 #[(0, .tmp 23), (1, .tmp 31), (2, .tmp 33), (3, .tmp 35)], type := 124, pos := "sense.go:25", after := #[{ on := 4, ground := .data }, { on := 12, ground := .data }, { on := 14, ground := .data }, { on := 16, ground := .data }], guard := none },
  { dst := some 37, op := .call { callee := .value (.func 45), args := #[.tmp 36], argTypes := #[124] }, type := 94, pos := "sense.go:25", after := #[{ on := 17, ground := .data }, { on := 16, ground := .chain }], guard := none },
  { dst := some 11, op := .alloc 94, type := 0, pos := "sense.go:25", after := #[], guard := none },
  { dst := none, op := .store 94 (.tmp 11) (.tmp 37), type := 0, pos := "sense.go:25", after := #[{ on := 19, ground := .data }, { on := 18, ground := .data }, { on := 18, ground := .chain }, { on := 0, ground := .phase }, { on := 1, ground := .phase }, { on := 2, ground := .phase }, { on := 3, ground := .phase }, { on := 4, ground := .phase }, { on := 5, ground := .phase }, { on := 6, ground := .phase }, { on := 7, ground := .phase }, { on := 8, ground := .phase }, { on := 9, ground := .phase }, { on := 10, ground := .phase }, { on := 11, ground := .phase }, { on := 12, ground := .phase }, { on := 13, ground := .phase }, { on := 14, ground := .phase }, { on := 15, ground := .phase }, { on := 16, ground := .phase }, { on := 17, ground := .phase }, { on := 18, ground := .phase }, { on := 19, ground := .phase }], guard := none }]
def chk6_D : List Nat := [19, 20, 21, 22, 23, 24, 25, 26, 27, 28, 29, 30, 31, 32, 33, 34, 35, 36, 37, 11]
/-- What each operation comes to. -/
def chk6_V (k p B : Nat) (had : Bool) (r : Raw) (u : Value) (i : Nat) (v : Value) (w : World) : Prop :=
  match i with
  | 0 => v = .int .i64 (k : Int)
  | 1 => v = .bool (decide (64 ≤ k))
  | 2 => v = .pointer (some ⟨p, 0, none⟩)
  | 3 => v = .int .i64 r.pos
  | 4 => v = .agg (fltV (whenF (decide (64 ≤ k)) 4 r.pos))
  | 5 => v = .bool had
  | 6 => v = .bool had
  | 7 => had = true → v = .pointer (some ⟨p, 1, none⟩)
  | 8 => had = true → v = .bool r.dflt
  | 9 => v = .bool (had && r.dflt)
  | 10 => v = .pointer (some ⟨p, 0, none⟩)
  | 11 => v = .int .i64 r.pos
  | 12 => v = .agg (fltV (whenF (had && r.dflt) 9 r.pos))
  | 13 => v = .agg (rawV r u)
  | 14 => v = .agg (fltV (lineF r))
  | 15 => v = .agg (rawV r u)
  | 16 => v = .agg (fltV (actF r))
  | 17 => GSl FltE fltV w v [whenF (decide (64 ≤ k)) 4 r.pos, whenF (had && r.dflt) 9 r.pos, lineF r, actF r]
  | 18 => v = .agg (fltV (rowF k had r))
  | 19 => ∃ g, v = .pointer (some ⟨g, 0, none⟩) ∧ B ≤ g ∧ w.heap[g]? = some (.cells FltE.zero FltE.elem (0, 0))
  | _ => True
theorem chk6_mono (k p B : Nat) (had : Bool) (r : Raw) (u : Value) : ∀ j v w w', chk6_V k p B had r u j v w → Below w.heap.size w w' → chk6_V k p B had r u j v w' := by
  intro j v w w' h hb
  revert h
  unfold chk6_V
  split <;> intro h <;> first
    | exact h
    | exact GSl.below h hb
    | (obtain ⟨g, h1, h2, h3⟩ := h
       exact ⟨g, h1, h2, (hb.block g (Array.getElem?_eq_some_iff.1 h3).1).trans h3⟩)
theorem rowF_four (k : Nat) (had : Bool) (r : Raw) : firstF [whenF (decide (64 ≤ k)) 4 r.pos, whenF (had && r.dflt) 9 r.pos, lineF r, actF r] = rowF k had r := by
  unfold rowF orF whenF
  simp only [firstF]
  by_cases h : 64 ≤ k <;> simp [h]
theorem run_binOp {o : Oper} {op : BinOp} {t z : Nat} {x y : Operand} (ho : o.op = .binOp op t x y z) (a : Act) (W : World) (vx vy : Value) (hx : a.eval x = vx) (hy : a.eval y = vy) (v : Value) (hg : (eqGuard op t x y vx vy).run Tryz.prog W = .ok () W) (h : (binOp op t vx vy).run Tryz.prog W = .ok v W) : (execOp a.eval o).run Tryz.prog W = .ok (.value v) W := by
  unfold execOp
  simp only [ho, Sem.run_bind, hx, hy, hg, h, Result.andThen_ok, Sem.run_pure]
theorem load_raw (W : World) (p : Nat) (r : Raw) (u : Value) (h : W.heap[p]? = some (.cells (rawV r u) 92 (0, 0))) : (Instr.loadAt 92 (.pointer (some ⟨p, 0, none⟩))).run Tryz.prog W = .ok (.agg (rawV r u)) W := by
  simp only [Instr.loadAt, Instr.sureAddr, Sem.run_bind, Sem.run_pure, Result.andThen_ok]
  exact RawOk.load W p 0 _ _ _ (rawV r u) rfl h (own_cells _ _)
theorem load_int (W : World) (ad : Addr) (n : Int) (h : W.cell? ad = some (.int .i64 n)) : (Instr.loadAt 3 (.pointer (some ad))).run Tryz.prog W = .ok (.int .i64 n) W := by
  simp [go_sem, h]
theorem load_bool (W : World) (ad : Addr) (b : Bool) (h : W.cell? ad = some (.bool b)) : (Instr.loadAt 4 (.pointer (some ad))).run Tryz.prog W = .ok (.bool b) W := by
  simp [go_sem, h]

theorem yielded6 (a : Act) (b : Bool) (h : a.eval (.tmp 25) = .bool b) (hs : 25 < a.tmps.size) : yielded chk6_ops.toArray a.tmps 6 = some b := by
  have h' : a.tmps[25]? = some (.bool b) := by
    simp only [Act.eval, Array.getD_eq_getD_getElem?, Array.getElem?_eq_getElem hs, Option.getD_some] at h
    rw [Array.getElem?_eq_getElem hs, h]
  unfold yielded
  have e : ((chk6_ops.toArray[6]?).bind (·.dst)) = some 25 := rfl
  rw [e]
  simp only [Option.bind_some, h']
set_option maxHeartbeats 4000000 in
theorem chk6_region {id : Nat} {Q : Exit → Act → World → Prop} {a0 : Act} {w0 : World} (hs : 60 ≤ a0.tmps.size) (k p : Nat) (had : Bool) (r : Raw) (u : Value) (h8 : a0.eval (.tmp 8) = .bool had) (h9 : a0.eval (.tmp 9) = .int .i64 (k : Int)) (h10 : a0.eval (.tmp 10) = .pointer (some ⟨p, 0, none⟩))
    (hp : w0.heap[p]? = some (.cells (rawV r u) 92 (0, 0))) (hu : ClasAt w0 r u)
    (hK : ∀ y w' g, y 11 = .pointer (some ⟨g, 0, none⟩) → w0.heap.size ≤ g → Below w0.heap.size w0 w' → w'.heap[g]? = some (.cells (fltV (rowF k had r)) 94 (0, 0)) → Q .normal (putsD chk6_D y a0) w') : (Code.region id chk6_ops.toArray true).wp Tryz.prog Q a0 w0 := by
  have hDs : ∀ d ∈ chk6_D, d < a0.tmps.size := fun d hd => by
    have : d < 60 := by
      revert hd; unfold chk6_D; intro hd
      simp only [List.mem_cons, List.not_mem_nil, or_false] at hd
      omega
    omega
  have hul : ∃ o n m, u = .slice o n m := by obtain ⟨o, cap, rfl, _⟩ := NSl.slice hu; exact ⟨_, _, _, rfl⟩
  refine region_inv 20 (chk6_V k p w0.heap.size had r u) chk6_D (by kernel_rfl) rfl (by kernel_rfl) (by decide) hDs (by kernel_rfl) (by kernel_rfl) (chk6_mono k p w0.heap.size had r u) ?_ ?_
  · intro i o ho hi a w h
    have B : Below w0.heap.size w0 w := (Below.refl _ _).drew.trans h.below
    have e8 : a.eval (.tmp 8) = .bool had := (h.other 8 (by decide)).trans h8
    have e9 : a.eval (.tmp 9) = .int .i64 (k : Int) := (h.other 9 (by decide)).trans h9
    have e10 : a.eval (.tmp 10) = .pointer (some ⟨p, 0, none⟩) := (h.other 10 (by decide)).trans h10
    have bp : w.heap[p]? = some (.cells (rawV r u) 92 (0, 0)) := (B.block p (Array.getElem?_eq_some_iff.1 hp).1).trans hp
    have c := raw_f bp
    have fa : ∀ j, j < 2 → (Instr.fieldAt 92 (.pointer (some ⟨p, 0, none⟩)) j).run Tryz.prog w = .ok (.pointer (some ⟨p, j, none⟩)) w := fun j hj => by
      rcases (show j = 0 ∨ j = 1 by omega) with rfl | rfl <;> simp [go_sem]
    have cw : ∀ vs W, (callFunc 46 vs).run Tryz.prog W = .ok (.enter 46 vs) W := fun vs W => by have hf := Tryz.func46; simp [go_sem]
    have cr : ∀ vs W, (callFunc 47 vs).run Tryz.prog W = .ok (.enter 47 vs) W := fun vs W => by have hf := Tryz.func47; simp [go_sem]
    have ca : ∀ vs W, (callFunc 48 vs).run Tryz.prog W = .ok (.enter 48 vs) W := fun vs W => by have hf := Tryz.func48; simp [go_sem]
    have cf : ∀ vs W, (callFunc 45 vs).run Tryz.prog W = .ok (.enter 45 vs) W := fun vs W => by have hf := Tryz.func45; simp [go_sem]
    rcases (show i = 0 ∨ i = 1 ∨ i = 2 ∨ i = 3 ∨ i = 4 ∨ i = 5 ∨ i = 6 ∨ i = 7 ∨ i = 8 ∨ i = 9 ∨ i = 10 ∨ i = 11 ∨ i = 12 ∨ i = 13 ∨ i = 14 ∨ i = 15 ∨ i = 16 ∨ i = 17 ∨ i = 18 ∨ i = 19 by omega) with rfl | rfl | rfl | rfl | rfl | rfl | rfl | rfl | rfl | rfl | rfl | rfl | rfl | rfl | rfl | rfl | rfl | rfl | rfl | rfl
    · obtain rfl := Option.some.inj ho
      exact iv_val rfl rfl _ (run_moveOp rfl _ _ _ e9) rfl
    · obtain rfl := Option.some.inj ho
      have f0 : a.eval (.tmp 19) = .int .i64 (k : Int) := h.has ⟨0, .data⟩ (by simp) rfl _ 19 rfl rfl
      refine iv_val rfl rfl (.bool (decide (64 ≤ k))) (run_binOp rfl _ _ _ _ f0 rfl _ (by simp [go_sem]) ?_) rfl
      simp [go_sem]
      omega
    · obtain rfl := Option.some.inj ho
      exact iv_val rfl rfl _ (run_fieldOp rfl _ _ _ ((congrArg (fun y => (Instr.fieldAt 92 y 0).run Tryz.prog w) e10).trans (fa 0 (by decide)))) rfl
    · obtain rfl := Option.some.inj ho
      have f2 : a.eval (.tmp 21) = .pointer (some ⟨p, 0, none⟩) := h.has ⟨2, .data⟩ (by simp) rfl _ 21 rfl rfl
      exact iv_val rfl rfl _ (run_loadOp rfl _ _ _ _ f2 (load_int _ _ _ c.1)) rfl
    · obtain rfl := Option.some.inj ho
      have f1 : a.eval (.tmp 20) = .bool (decide (64 ≤ k)) := h.has ⟨1, .data⟩ (by simp) rfl _ 20 rfl rfl
      have f3 : a.eval (.tmp 22) = .int .i64 r.pos := h.has ⟨3, .data⟩ (by simp) rfl _ 22 rfl rfl
      exact iv_call rfl rfl 46 #[.bool (decide (64 ≤ k)), .int .i64 4, .int .i64 r.pos] (run_callOps rfl cw _ _ _ (by simp only [List.map_toArray, List.map_cons, List.map_nil, f1, f3]; rfl)) ((whenF_any _ _ _ w).mono fun e w' h => ⟨_, h.1, h.2, rfl⟩)
    · obtain rfl := Option.some.inj ho
      exact iv_val rfl rfl _ (run_moveOp rfl _ _ _ e8) rfl
    · obtain rfl := Option.some.inj ho
      have f5 : a.eval (.tmp 24) = .bool had := h.has ⟨5, .data⟩ (by simp) rfl _ 24 rfl rfl
      exact iv_val rfl rfl _ (run_moveOp rfl _ _ _ f5) rfl
    · obtain rfl := Option.some.inj ho
      have f6 : a.eval (.tmp 25) = .bool had := h.has ⟨6, .guard⟩ (by simp) rfl _ 25 rfl rfl
      have hy := yielded6 a had f6 (by rw [h.size]; omega)
      cases had with
      | true => exact iv_val rfl (by unfold Region.wanted; simp only [hy]; rfl) _ (run_fieldOp rfl _ _ _ ((congrArg (fun y => (Instr.fieldAt 92 y 1).run Tryz.prog w) e10).trans (fa 1 (by decide)))) (fun _ => rfl)
      | false => exact iv_not rfl (by unfold Region.wanted; simp only [hy]; rfl) (fun hh => by cases hh)
    · obtain rfl := Option.some.inj ho
      have f6 : a.eval (.tmp 25) = .bool had := h.has ⟨6, .guard⟩ (by simp) rfl _ 25 rfl rfl
      have f7 : had = true → a.eval (.tmp 26) = .pointer (some ⟨p, 1, none⟩) := h.has ⟨7, .data⟩ (by simp) rfl _ 26 rfl rfl
      have hy := yielded6 a had f6 (by rw [h.size]; omega)
      cases had with
      | true => exact iv_val rfl (by unfold Region.wanted; simp only [hy]; rfl) _ (run_loadOp rfl _ _ _ _ (f7 rfl) (load_bool _ _ _ c.2.1)) (fun _ => rfl)
      | false => exact iv_not rfl (by unfold Region.wanted; simp only [hy]; rfl) (fun hh => by cases hh)
    · obtain rfl := Option.some.inj ho
      have f6 : a.eval (.tmp 25) = .bool had := h.has ⟨6, .data⟩ (by simp) rfl _ 25 rfl rfl
      have f8 : had = true → a.eval (.tmp 27) = .bool r.dflt := h.has ⟨8, .data⟩ (by simp) rfl _ 27 rfl rfl
      refine iv_val rfl rfl (.bool (had && r.dflt)) (run_pickOp rfl _ _ had f6 _ ?_) rfl
      cases had with
      | true => exact f8 rfl
      | false => rfl
    · obtain rfl := Option.some.inj ho
      exact iv_val rfl rfl _ (run_fieldOp rfl _ _ _ ((congrArg (fun y => (Instr.fieldAt 92 y 0).run Tryz.prog w) e10).trans (fa 0 (by decide)))) rfl
    · obtain rfl := Option.some.inj ho
      have f2 : a.eval (.tmp 29) = .pointer (some ⟨p, 0, none⟩) := h.has ⟨10, .data⟩ (by simp) rfl _ 29 rfl rfl
      exact iv_val rfl rfl _ (run_loadOp rfl _ _ _ _ f2 (load_int _ _ _ c.1)) rfl
    · obtain rfl := Option.some.inj ho
      have f1 : a.eval (.tmp 28) = .bool (had && r.dflt) := h.has ⟨9, .data⟩ (by simp) rfl _ 28 rfl rfl
      have f3 : a.eval (.tmp 30) = .int .i64 r.pos := h.has ⟨11, .data⟩ (by simp) rfl _ 30 rfl rfl
      exact iv_call rfl rfl 46 #[.bool (had && r.dflt), .int .i64 9, .int .i64 r.pos] (run_callOps rfl cw _ _ _ (by simp only [List.map_toArray, List.map_cons, List.map_nil, f1, f3]; rfl)) ((whenF_any _ _ _ w).mono fun e w' h => ⟨_, h.1, h.2, rfl⟩)
    · obtain rfl := Option.some.inj ho
      exact iv_val rfl rfl _ (run_loadOp rfl _ _ _ _ e10 (load_raw _ _ _ _ bp)) rfl
    · obtain rfl := Option.some.inj ho
      have f1 : a.eval (.tmp 32) = .agg (rawV r u) := h.has ⟨13, .data⟩ (by simp) rfl _ 32 rfl rfl
      exact iv_call rfl rfl 47 #[.agg (rawV r u)] (run_callOps rfl cr _ _ _ (by simp [f1])) ((ruleF_any r u w (clas_below _ _ _ _ B hu)).mono fun e w' h => ⟨_, h.1, h.2, rfl⟩)
    · obtain rfl := Option.some.inj ho
      exact iv_val rfl rfl _ (run_loadOp rfl _ _ _ _ e10 (load_raw _ _ _ _ bp)) rfl
    · obtain rfl := Option.some.inj ho
      have f1 : a.eval (.tmp 34) = .agg (rawV r u) := h.has ⟨15, .data⟩ (by simp) rfl _ 34 rfl rfl
      exact iv_call rfl rfl 48 #[.agg (rawV r u)] (run_callOps rfl ca _ _ _ (by simp [f1])) ((actionF_any r u hul w).mono fun e w' h => ⟨_, h.1, h.2, rfl⟩)
    · obtain rfl := Option.some.inj ho
      have f1 : a.eval (.tmp 23) = .agg (fltV (whenF (decide (64 ≤ k)) 4 r.pos)) := h.has ⟨4, .data⟩ (by simp) rfl _ 23 rfl rfl
      have f2 : a.eval (.tmp 31) = .agg (fltV (whenF (had && r.dflt) 9 r.pos)) := h.has ⟨12, .data⟩ (by simp) rfl _ 31 rfl rfl
      have f3 : a.eval (.tmp 33) = .agg (fltV (lineF r)) := h.has ⟨14, .data⟩ (by simp) rfl _ 33 rfl rfl
      have f4 : a.eval (.tmp 35) = .agg (fltV (actF r)) := h.has ⟨16, .data⟩ (by simp) rfl _ 35 rfl rfl
      refine iv_list rfl ?_
      refine wl_build4F rfl _ _ _ _ rfl _ _ _ _ f1 f2 f3 f4 ?_
      exact ⟨_, rfl, (Below.refl _ _).alloc (Nat.le_refl _) _, fun _ _ => gsl_row (E := FltE) (C := [whenF (decide (64 ≤ k)) 4 r.pos, whenF (had && r.dflt) 9 r.pos, lineF r, actF r]) (fun _ => rfl) (heap_new _ _ _ rfl) (by show 4 ≤ _; decide)⟩
    · obtain rfl := Option.some.inj ho
      have f1 : GSl FltE fltV w (a.eval (.tmp 36)) [whenF (decide (64 ≤ k)) 4 r.pos, whenF (had && r.dflt) 9 r.pos, lineF r, actF r] := h.has ⟨17, .data⟩ (by simp) rfl _ 36 rfl rfl
      refine iv_call rfl rfl 45 #[a.eval (.tmp 36)] (run_callOps rfl cf _ _ _ (by simp)) ((first7_any _ _ w f1).mono fun e w' h => ⟨_, h.1, h.2, ?_⟩)
      show _ = _
      rw [rowF_four]
    · obtain rfl := Option.some.inj ho
      exact iv_alloc FltOk rfl rfl rfl ⟨_, rfl, B.size, heap_new _ _ _ rfl⟩
  · intro a w hb hsz hdf hot hh
    obtain ⟨g, f1, hg, hz⟩ : ∃ g, a.eval (.tmp 11) = .pointer (some ⟨g, 0, none⟩) ∧ w0.heap.size ≤ g ∧ w.heap[g]? = some (.cells FltE.zero FltE.elem (0, 0)) := hh 19 _ 11 (by decide) rfl rfl
    have f2 : a.eval (.tmp 37) = .agg (fltV (rowF k had r)) := hh 18 _ 37 (by decide) rfl rfl
    refine wpOp_of_list rfl ?_
    refine wl_storeE (E := FltE) FltOk rfl _ _ rfl g (fltV (rowF k had r)) (flt_fits _) f1 f2 _ hz rfl _ rfl ?_
    show Q .normal a _
    rw [puts_form hsz hdf hot hDs]
    exact hK _ _ g f1 hg (below_setRow hb hg _) (setRow_heap _ _ _ _ _ _ hz)
end Go.Proofs.YthddlchkbnmcaaaGreatDoor
namespace Go.Proofs.YthddlchkbnmcaaaGreatDoor
open Go Go.RowKit
set_option maxRecDepth 20000

/-- An entry as it lies in memory. -/
def entV (x : Ent) : Array Value := #[.bool x.dflt, .int .i64 x.prio, .int .u32 x.src, .int .i64 x.srcBits, .int .u32 x.dst, .int .i64 x.dstBits, .int .i64 x.slow, .int .i64 x.shigh, .int .i64 x.dlow, .int .i64 x.dhigh, .int .i64 x.proto, .int .i64 x.action]
def EntE : El := ⟨35, 22, 12, 96, #[.bool false, .int .i64 0, .int .u32 0, .int .i64 0, .int .u32 0, .int .i64 0, .int .i64 0, .int .i64 0, .int .i64 0, .int .i64 0, .int .i64 0, .int .i64 0]⟩
theorem EntOk : EntE.Ok := ⟨Tryz.underlying22, ⟨_, Tryz.underlying35, rfl⟩, by kernel_rfl, rfl, by decide, by decide, by decide⟩
theorem ent_fits (x : Ent) : Fits EntE (entV x) := ⟨rfl, by simp [entV, Value.oneCell']⟩

def mean3_ops : List Oper := [
  { dst := some 11, op := .fieldAddr 92 (.tmp 1) 2, type := 0, pos := "sense.go:57", after := #[], guard := none },
  { dst := some 12, op := .fieldAddr 89 (.tmp 11) 0, type := 0, pos := "sense.go:57", after := #[{ on := 0, ground := .data }], guard := none },
  { dst := some 13, op := .load 3 (.tmp 12), type := 3, pos := "sense.go:57", after := #[{ on := 1, ground := .data }], guard := none },
  { dst := some 14, op := .load 92 (.tmp 1), type := 92, pos := "sense.go:57", after := #[], guard := none },
  { dst := some 15, op := .call { callee := .value (.func 75), args := #[.tmp 14], argTypes := #[92] }, type := 3, pos := "sense.go:57", after := #[{ on := 3, ground := .data }], guard := none },
  { dst := some 16, op := .build 35 #[(1, .tmp 13), (7, .const (.int .i64 65535)), (9, .const (.int .i64 65535)), (10, .const (.int .i64 (-1))), (11, .tmp 15)], type := 35, pos := "sense.go:57", after := #[{ on := 2, ground := .data }, { on := 4, ground := .data }], guard := none },
  { dst := some 3, op := .alloc 35, type := 0, pos := "sense.go:57", after := #[], guard := none },
  { dst := none, op := .store 35 (.tmp 3) (.tmp 16), type := 0, pos := "sense.go:57", after := #[{ on := 6, ground := .data }, { on := 5, ground := .data }, { on := 4, ground := .chain }, { on := 0, ground := .phase }, { on := 1, ground := .phase }, { on := 2, ground := .phase }, { on := 3, ground := .phase }, { on := 4, ground := .phase }, { on := 5, ground := .phase }, { on := 6, ground := .phase }], guard := none }]
def mean3_D : List Nat := [11, 12, 13, 14, 15, 16, 3]
def mean3_V (p B : Nat) (r : Raw) (u : Value) (i : Nat) (v : Value) (w : World) : Prop :=
  match i with
  | 0 => v = .pointer (some ⟨p, 2, none⟩)
  | 1 => v = .pointer (some ⟨p, 2, none⟩)
  | 2 => v = .int .i64 r.prio.n
  | 3 => v = .agg (rawV r u)
  | 4 => v = .int .i64 (actOf r)
  | 5 => v = .agg (entV (ent0 r))
  | 6 => ∃ g, v = .pointer (some ⟨g, 0, none⟩) ∧ B ≤ g ∧ w.heap[g]? = some (.cells EntE.zero EntE.elem (0, 0))
  | _ => True
theorem mean3_mono (p B : Nat) (r : Raw) (u : Value) : ∀ j v w w', mean3_V p B r u j v w → Below w.heap.size w w' → mean3_V p B r u j v w' := by
  intro j v w w' h hb
  revert h
  unfold mean3_V
  split <;> intro h <;> first
    | exact h
    | (obtain ⟨g, h1, h2, h3⟩ := h
       exact ⟨g, h1, h2, (hb.block g (Array.getElem?_eq_some_iff.1 h3).1).trans h3⟩)
theorem run_buildOp {o : Oper} {t : Nat} {ps : Array (Nat × Operand)} (ho : o.op = .build t ps) (a : Act) (W : World) (qs : Array (Nat × Value)) (hq : (ps.map fun (i, x) => (i, a.eval x)) = qs) (v : Value) (h : (Instr.build t qs).run Tryz.prog W = .ok v W) : (execOp a.eval o).run Tryz.prog W = .ok (.value v) W := by
  unfold execOp
  simp only [ho, Sem.run_bind, hq, h, Result.andThen_ok, Sem.run_pure]

set_option maxHeartbeats 4000000 in
theorem mean3_region {id : Nat} {Q : Exit → Act → World → Prop} {a0 : Act} {w0 : World} (hs : 72 ≤ a0.tmps.size) (p : Nat) (r : Raw) (u : Value) (h1 : a0.eval (.tmp 1) = .pointer (some ⟨p, 0, none⟩))
    (hp : w0.heap[p]? = some (.cells (rawV r u) 92 (0, 0))) (hul : ∃ o n m, u = .slice o n m)
    (hK : ∀ y w' g, y 3 = .pointer (some ⟨g, 0, none⟩) → w0.heap.size ≤ g → Below w0.heap.size w0 w' → w'.heap[g]? = some (.cells (entV (ent0 r)) 35 (0, 0)) → Q .normal (putsD mean3_D y a0) w') : (Code.region id mean3_ops.toArray true).wp Tryz.prog Q a0 w0 := by
  have hDs : ∀ d ∈ mean3_D, d < a0.tmps.size := fun d hd => by
    have : d < 72 := by
      revert hd; unfold mean3_D; intro hd
      simp only [List.mem_cons, List.not_mem_nil, or_false] at hd
      omega
    omega
  refine region_inv 7 (mean3_V p w0.heap.size r u) mean3_D (by kernel_rfl) rfl (by kernel_rfl) (by decide) hDs (by kernel_rfl) (by kernel_rfl) (mean3_mono p w0.heap.size r u) ?_ ?_
  · intro i o ho hi a w h
    have B : Below w0.heap.size w0 w := (Below.refl _ _).drew.trans h.below
    have e1 : a.eval (.tmp 1) = .pointer (some ⟨p, 0, none⟩) := (h.other 1 (by decide)).trans h1
    have bp : w.heap[p]? = some (.cells (rawV r u) 92 (0, 0)) := (B.block p (Array.getElem?_eq_some_iff.1 hp).1).trans hp
    have c := raw_f bp
    have ca : ∀ vs W, (callFunc 75 vs).run Tryz.prog W = .ok (.enter 75 vs) W := fun vs W => by have hf := Tryz.func75; simp [go_sem]
    rcases (show i = 0 ∨ i = 1 ∨ i = 2 ∨ i = 3 ∨ i = 4 ∨ i = 5 ∨ i = 6 by omega) with rfl | rfl | rfl | rfl | rfl | rfl | rfl
    · obtain rfl := Option.some.inj ho
      exact iv_val rfl rfl _ (run_fieldOp rfl _ _ _ ((congrArg (fun y => (Instr.fieldAt 92 y 2).run Tryz.prog w) e1).trans (show _ = Result.ok (.pointer (some ⟨p, 2, none⟩)) w by simp [go_sem]))) rfl
    · obtain rfl := Option.some.inj ho
      have f0 : a.eval (.tmp 11) = .pointer (some ⟨p, 2, none⟩) := h.has ⟨0, .data⟩ (by simp) rfl _ 11 rfl rfl
      exact iv_val rfl rfl _ (run_fieldOp rfl _ _ _ ((congrArg (fun y => (Instr.fieldAt 89 y 0).run Tryz.prog w) f0).trans (show _ = Result.ok (.pointer (some ⟨p, 2, none⟩)) w by simp [go_sem]))) rfl
    · obtain rfl := Option.some.inj ho
      have f1 : a.eval (.tmp 12) = .pointer (some ⟨p, 2, none⟩) := h.has ⟨1, .data⟩ (by simp) rfl _ 12 rfl rfl
      exact iv_val rfl rfl _ (run_loadOp rfl _ _ _ _ f1 (load_int _ _ _ c.2.2.1)) rfl
    · obtain rfl := Option.some.inj ho
      exact iv_val rfl rfl _ (run_loadOp rfl _ _ _ _ e1 (load_raw _ _ _ _ bp)) rfl
    · obtain rfl := Option.some.inj ho
      have f1 : a.eval (.tmp 14) = .agg (rawV r u) := h.has ⟨3, .data⟩ (by simp) rfl _ 14 rfl rfl
      exact iv_call rfl rfl 75 #[.agg (rawV r u)] (run_callOps rfl ca _ _ _ (by simp [f1])) ((action7_any r u hul w).mono fun e w' h => ⟨_, h.1, h.2, rfl⟩)
    · obtain rfl := Option.some.inj ho
      have f1 : a.eval (.tmp 13) = .int .i64 r.prio.n := h.has ⟨2, .data⟩ (by simp) rfl _ 13 rfl rfl
      have f2 : a.eval (.tmp 15) = .int .i64 (actOf r) := h.has ⟨4, .data⟩ (by simp) rfl _ 15 rfl rfl
      refine iv_val rfl rfl (.agg (entV (ent0 r))) (run_buildOp rfl _ _ #[(1, .int .i64 r.prio.n), (7, .int .i64 65535), (9, .int .i64 65535), (10, .int .i64 (-1)), (11, .int .i64 (actOf r))] (by simp only [List.map_toArray, List.map_cons, List.map_nil, f1, f2]; rfl) _ ?_) rfl
      kernel_rfl
    · obtain rfl := Option.some.inj ho
      exact iv_alloc EntOk rfl rfl rfl ⟨_, rfl, B.size, heap_new _ _ _ rfl⟩
  · intro a w hb hsz hdf hot hh
    obtain ⟨g, f1, hg, hz⟩ : ∃ g, a.eval (.tmp 3) = .pointer (some ⟨g, 0, none⟩) ∧ w0.heap.size ≤ g ∧ w.heap[g]? = some (.cells EntE.zero EntE.elem (0, 0)) := hh 6 _ 3 (by decide) rfl rfl
    have f2 : a.eval (.tmp 16) = .agg (entV (ent0 r)) := hh 5 _ 16 (by decide) rfl rfl
    refine wpOp_of_list rfl ?_
    refine wl_storeE (E := EntE) EntOk rfl _ _ rfl g (entV (ent0 r)) (ent_fits _) f1 f2 _ hz rfl _ rfl ?_
    show Q .normal a _
    rw [puts_form hsz hdf hot hDs]
    exact hK _ _ g f1 hg (below_setRow hb hg _) (setRow_heap _ _ _ _ _ _ hz)
end Go.Proofs.YthddlchkbnmcaaaGreatDoor
