import Derived.Test.YtfamnloobmdhdaaDoorJ7
import Derived.Test.YtfamnloobmdhdaaDoorJ8
namespace Go.Proofs.YtfamnloobmdhdaaDoor
open Go Go.RowKit
set_option maxRecDepth 20000

def chk6_ops : List Oper := [
  { dst := some 19, op := .move (.tmp 9), type := 3, pos := "sense.go:25", after := #[], guard := none },
  { dst := some 20, op := .binOp .geq 3 (.tmp 19) (.const (.int .i64 64)) 3, type := 4, pos := "sense.go:25", after := #[{ on := 0, ground := .data }], guard := none },
  { dst := some 21, op := .fieldAddr 51 (.tmp 10) 0, type := 0, pos := "sense.go:25", after := #[], guard := none },
  { dst := some 22, op := .load 3 (.tmp 21), type := 3, pos := "sense.go:25", after := #[{ on := 2, ground := .data }], guard := none },
  { dst := some 23, op := .call { callee := .value (.func 26), args := #[.tmp 20, .const (.int .i64 4), .tmp 22], argTypes := #[4, 24, 3] }, type := 56, pos := "sense.go:26", after := #[{ on := 1, ground := .data }, { on := 3, ground := .data }], guard := none },
  { dst := some 24, op := .move (.tmp 8), type := 4, pos := "sense.go:25", after := #[], guard := none },
  { dst := some 25, op := .move (.tmp 24), type := 4, pos := "sense.go:25", after := #[{ on := 5, ground := .data }, { on := 4, ground := .chain }], guard := none },
  { dst := some 26, op := .fieldAddr 51 (.tmp 10) 1, type := 0, pos := "sense.go:25", after := #[{ on := 6, ground := .guard }], guard := some (6, true) },
  { dst := some 27, op := .load 4 (.tmp 26), type := 4, pos := "sense.go:25", after := #[{ on := 7, ground := .data }, { on := 6, ground := .guard }], guard := some (6, true) },
  { dst := some 28, op := .pick (.tmp 25) (.tmp 27) (.const (.bool false)), type := 4, pos := "sense.go:25", after := #[{ on := 6, ground := .data }, { on := 8, ground := .data }], guard := none },
  { dst := some 29, op := .fieldAddr 51 (.tmp 10) 0, type := 0, pos := "sense.go:25", after := #[], guard := none },
  { dst := some 30, op := .load 3 (.tmp 29), type := 3, pos := "sense.go:25", after := #[{ on := 10, ground := .data }], guard := none },
  { dst := some 31, op := .call { callee := .value (.func 26), args := #[.tmp 28, .const (.int .i64 9), .tmp 30], argTypes := #[4, 24, 3] }, type := 56, pos := "sense.go:27", after := #[{ on := 9, ground := .data }, { on := 11, ground := .data }, { on := 6, ground := .chain }], guard := none },
  { dst := some 32, op := .load 51 (.tmp 10), type := 51, pos := "sense.go:25", after := #[], guard := none },
  { dst := some 33, op := .call { callee := .value (.func 27), args := #[.tmp 32], argTypes := #[51] }, type := 56, pos := "sense.go:28", after := #[{ on := 13, ground := .data }, { on := 12, ground := .chain }], guard := none },
  { dst := some 34, op := .load 51 (.tmp 10), type := 51, pos := "sense.go:25", after := #[], guard := none },
  { dst := some 35, op := .call { callee := .value (.func 28), args := #[.tmp 34], argTypes := #[51] }, type := 56, pos := "sense.go:29", after := #[{ on := 15, ground := .data }, { on := 14, ground := .chain }], guard := none },
  { dst := some 36, op := .buildSlice 93 4 #[(0, .tmp 23), (1, .tmp 31), (2, .tmp 33), (3, .tmp 35)], type := 93, pos := "sense.go:25", after := #[{ on := 4, ground := .data }, { on := 12, ground := .data }, { on := 14, ground := .data }, { on := 16, ground := .data }], guard := none },
  { dst := some 37, op := .call { callee := .value (.func 25), args := #[.tmp 36], argTypes := #[93] }, type := 56, pos := "sense.go:25", after := #[{ on := 17, ground := .data }, { on := 16, ground := .chain }], guard := none },
  { dst := some 11, op := .alloc 56, type := 0, pos := "sense.go:25", after := #[], guard := none },
  { dst := none, op := .store 56 (.tmp 11) (.tmp 37), type := 0, pos := "sense.go:25", after := #[{ on := 19, ground := .data }, { on := 18, ground := .data }, { on := 18, ground := .chain }, { on := 0, ground := .phase }, { on := 1, ground := .phase }, { on := 2, ground := .phase }, { on := 3, ground := .phase }, { on := 4, ground := .phase }, { on := 5, ground := .phase }, { on := 6, ground := .phase }, { on := 7, ground := .phase }, { on := 8, ground := .phase }, { on := 9, ground := .phase }, { on := 10, ground := .phase }, { on := 11, ground := .phase }, { on := 12, ground := .phase }, { on := 13, ground := .phase }, { on := 14, ground := .phase }, { on := 15, ground := .phase }, { on := 16, ground := .phase }, { on := 17, ground := .phase }, { on := 18, ground := .phase }, { on := 19, ground := .phase }], guard := none }]
def chk6_D : List Nat := [19, 20, 21, 22, 23, 24, 25, 26, 27, 28, 29, 30, 31, 32, 33, 34, 35, 36, 37, 11]
/-- What each operation comes to. -/
def chk6_V (k p B : Nat) (had : Bool) (r : Raw) (u : Value) (i : Nat) (v : Value) (w : World) : Prop :=
  match i with
  | 0 => v = .int .i64 (k : Int)
  | 1 => v = .bool (decide (64 ≤ k))
  | 2 => v = .pointer (some ⟨p, 0, none⟩)
  | 3 => v = .int .i64 r.pos
  | 4 => v = .agg (fltV (whenF (decide (64 ≤ k)) 4 r.pos))
  | 5 => v = .bool had
  | 6 => v = .bool had
  | 7 => had = true → v = .pointer (some ⟨p, 1, none⟩)
  | 8 => had = true → v = .bool r.dflt
  | 9 => v = .bool (had && r.dflt)
  | 10 => v = .pointer (some ⟨p, 0, none⟩)
  | 11 => v = .int .i64 r.pos
  | 12 => v = .agg (fltV (whenF (had && r.dflt) 9 r.pos))
  | 13 => v = .agg (rawV r u)
  | 14 => v = .agg (fltV (lineF r))
  | 15 => v = .agg (rawV r u)
  | 16 => v = .agg (fltV (actF r))
  | 17 => GSl FltE fltV w v [whenF (decide (64 ≤ k)) 4 r.pos, whenF (had && r.dflt) 9 r.pos, lineF r, actF r]
  | 18 => v = .agg (fltV (rowF k had r))
  | 19 => ∃ g, v = .pointer (some ⟨g, 0, none⟩) ∧ B ≤ g ∧ w.heap[g]? = some (.cells FltE.zero FltE.elem (0, 0))
  | _ => True
theorem chk6_mono (k p B : Nat) (had : Bool) (r : Raw) (u : Value) : ∀ j v w w', chk6_V k p B had r u j v w → Below w.heap.size w w' → chk6_V k p B had r u j v w' := by
  intro j v w w' h hb
  revert h
  unfold chk6_V
  split <;> intro h <;> first
    | exact h
    | exact GSl.below h hb
    | (obtain ⟨g, h1, h2, h3⟩ := h
       exact ⟨g, h1, h2, (hb.block g (Array.getElem?_eq_some_iff.1 h3).1).trans h3⟩)
theorem rowF_four (k : Nat) (had : Bool) (r : Raw) : firstF [whenF (decide (64 ≤ k)) 4 r.pos, whenF (had && r.dflt) 9 r.pos, lineF r, actF r] = rowF k had r := by
  unfold rowF orF whenF
  simp only [firstF]
  by_cases h : 64 ≤ k <;> simp [h]
theorem run_binOp {o : Oper} {op : BinOp} {t z : Nat} {x y : Operand} (ho : o.op = .binOp op t x y z) (a : Act) (W : World) (vx vy : Value) (hx : a.eval x = vx) (hy : a.eval y = vy) (v : Value) (hg : (eqGuard op t x y vx vy).run Tryd.prog W = .ok () W) (h : (binOp op t vx vy).run Tryd.prog W = .ok v W) : (execOp a.eval o).run Tryd.prog W = .ok (.value v) W := by
  unfold execOp
  simp only [ho, Sem.run_bind, hx, hy, hg, h, Result.andThen_ok, Sem.run_pure]
theorem load_raw (W : World) (p : Nat) (r : Raw) (u : Value) (h : W.heap[p]? = some (.cells (rawV r u) 51 (0, 0))) : (Instr.loadAt 51 (.pointer (some ⟨p, 0, none⟩))).run Tryd.prog W = .ok (.agg (rawV r u)) W := by
  simp only [Instr.loadAt, Instr.sureAddr, Sem.run_bind, Sem.run_pure, Result.andThen_ok]
  exact RawOk.load W p 0 _ _ _ (rawV r u) rfl h (own_cells _ _)
theorem load_int (W : World) (ad : Addr) (n : Int) (h : W.cell? ad = some (.int .i64 n)) : (Instr.loadAt 3 (.pointer (some ad))).run Tryd.prog W = .ok (.int .i64 n) W := by
  simp [go_sem, h]
theorem load_bool (W : World) (ad : Addr) (b : Bool) (h : W.cell? ad = some (.bool b)) : (Instr.loadAt 4 (.pointer (some ad))).run Tryd.prog W = .ok (.bool b) W := by
  simp [go_sem, h]

theorem yielded6 (a : Act) (b : Bool) (h : a.eval (.tmp 25) = .bool b) (hs : 25 < a.tmps.size) : yielded chk6_ops.toArray a.tmps 6 = some b := by
  have h' : a.tmps[25]? = some (.bool b) := by
    simp only [Act.eval, Array.getD_eq_getD_getElem?, Array.getElem?_eq_getElem hs, Option.getD_some] at h
    rw [Array.getElem?_eq_getElem hs, h]
  unfold yielded
  have e : ((chk6_ops.toArray[6]?).bind (·.dst)) = some 25 := rfl
  rw [e]
  simp only [Option.bind_some, h']
set_option maxHeartbeats 4000000 in
theorem chk6_region {id : Nat} {Q : Exit → Act → World → Prop} {a0 : Act} {w0 : World} (hs : 60 ≤ a0.tmps.size) (k p : Nat) (had : Bool) (r : Raw) (u : Value) (h8 : a0.eval (.tmp 8) = .bool had) (h9 : a0.eval (.tmp 9) = .int .i64 (k : Int)) (h10 : a0.eval (.tmp 10) = .pointer (some ⟨p, 0, none⟩))
    (hp : w0.heap[p]? = some (.cells (rawV r u) 51 (0, 0))) (hu : ClasAt w0 r u)
    (hK : ∀ y w' g, y 11 = .pointer (some ⟨g, 0, none⟩) → w0.heap.size ≤ g → Below w0.heap.size w0 w' → w'.heap[g]? = some (.cells (fltV (rowF k had r)) 56 (0, 0)) → Q .normal (putsD chk6_D y a0) w') : (Code.region id chk6_ops.toArray true).wp Tryd.prog Q a0 w0 := by
  have hDs : ∀ d ∈ chk6_D, d < a0.tmps.size := fun d hd => by
    have : d < 60 := by
      revert hd; unfold chk6_D; intro hd
      simp only [List.mem_cons, List.not_mem_nil, or_false] at hd
      omega
    omega
  have hul : ∃ o n m, u = .slice o n m := by obtain ⟨o, cap, rfl, _⟩ := NSl.slice hu; exact ⟨_, _, _, rfl⟩
  refine region_inv 20 (chk6_V k p w0.heap.size had r u) chk6_D (by kernel_rfl) rfl (by kernel_rfl) (by decide) hDs (by kernel_rfl) (by kernel_rfl) (chk6_mono k p w0.heap.size had r u) ?_ ?_
  · intro i o ho hi a w h
    have B : Below w0.heap.size w0 w := (Below.refl _ _).drew.trans h.below
    have e8 : a.eval (.tmp 8) = .bool had := (h.other 8 (by decide)).trans h8
    have e9 : a.eval (.tmp 9) = .int .i64 (k : Int) := (h.other 9 (by decide)).trans h9
    have e10 : a.eval (.tmp 10) = .pointer (some ⟨p, 0, none⟩) := (h.other 10 (by decide)).trans h10
    have bp : w.heap[p]? = some (.cells (rawV r u) 51 (0, 0)) := (B.block p (Array.getElem?_eq_some_iff.1 hp).1).trans hp
    have c := raw_f bp
    have fa : ∀ j, j < 2 → (Instr.fieldAt 51 (.pointer (some ⟨p, 0, none⟩)) j).run Tryd.prog w = .ok (.pointer (some ⟨p, j, none⟩)) w := fun j hj => by
      rcases (show j = 0 ∨ j = 1 by omega) with rfl | rfl <;> simp [go_sem]
    have cw : ∀ vs W, (callFunc 26 vs).run Tryd.prog W = .ok (.enter 26 vs) W := fun vs W => by have hf := Tryd.func26; simp [go_sem]
    have cr : ∀ vs W, (callFunc 27 vs).run Tryd.prog W = .ok (.enter 27 vs) W := fun vs W => by have hf := Tryd.func27; simp [go_sem]
    have ca : ∀ vs W, (callFunc 28 vs).run Tryd.prog W = .ok (.enter 28 vs) W := fun vs W => by have hf := Tryd.func28; simp [go_sem]
    have cf : ∀ vs W, (callFunc 25 vs).run Tryd.prog W = .ok (.enter 25 vs) W := fun vs W => by have hf := Tryd.func25; simp [go_sem]
    rcases (show i = 0 ∨ i = 1 ∨ i = 2 ∨ i = 3 ∨ i = 4 ∨ i = 5 ∨ i = 6 ∨ i = 7 ∨ i = 8 ∨ i = 9 ∨ i = 10 ∨ i = 11 ∨ i = 12 ∨ i = 13 ∨ i = 14 ∨ i = 15 ∨ i = 16 ∨ i = 17 ∨ i = 18 ∨ i = 19 by omega) with rfl | rfl | rfl | rfl | rfl | rfl | rfl | rfl | rfl | rfl | rfl | rfl | rfl | rfl | rfl | rfl | rfl | rfl | rfl | rfl
    · obtain rfl := Option.some.inj ho
      exact iv_val rfl rfl _ (run_moveOp rfl _ _ _ e9) rfl
    · obtain rfl := Option.some.inj ho
      have f0 : a.eval (.tmp 19) = .int .i64 (k : Int) := h.has ⟨0, .data⟩ (by simp) rfl _ 19 rfl rfl
      refine iv_val rfl rfl (.bool (decide (64 ≤ k))) (run_binOp rfl _ _ _ _ f0 rfl _ (by simp [go_sem]) ?_) rfl
      simp [go_sem]
      omega
    · obtain rfl := Option.some.inj ho
      exact iv_val rfl rfl _ (run_fieldOp rfl _ _ _ ((congrArg (fun y => (Instr.fieldAt 51 y 0).run Tryd.prog w) e10).trans (fa 0 (by decide)))) rfl
    · obtain rfl := Option.some.inj ho
      have f2 : a.eval (.tmp 21) = .pointer (some ⟨p, 0, none⟩) := h.has ⟨2, .data⟩ (by simp) rfl _ 21 rfl rfl
      exact iv_val rfl rfl _ (run_loadOp rfl _ _ _ _ f2 (load_int _ _ _ c.1)) rfl
    · obtain rfl := Option.some.inj ho
      have f1 : a.eval (.tmp 20) = .bool (decide (64 ≤ k)) := h.has ⟨1, .data⟩ (by simp) rfl _ 20 rfl rfl
      have f3 : a.eval (.tmp 22) = .int .i64 r.pos := h.has ⟨3, .data⟩ (by simp) rfl _ 22 rfl rfl
      exact iv_call rfl rfl 26 #[.bool (decide (64 ≤ k)), .int .i64 4, .int .i64 r.pos] (run_callOps rfl cw _ _ _ (by simp only [List.map_toArray, List.map_cons, List.map_nil, f1, f3]; rfl)) ((whenF_any _ _ _ w).mono fun e w' h => ⟨_, h.1, h.2, rfl⟩)
    · obtain rfl := Option.some.inj ho
      exact iv_val rfl rfl _ (run_moveOp rfl _ _ _ e8) rfl
    · obtain rfl := Option.some.inj ho
      have f5 : a.eval (.tmp 24) = .bool had := h.has ⟨5, .data⟩ (by simp) rfl _ 24 rfl rfl
      exact iv_val rfl rfl _ (run_moveOp rfl _ _ _ f5) rfl
    · obtain rfl := Option.some.inj ho
      have f6 : a.eval (.tmp 25) = .bool had := h.has ⟨6, .guard⟩ (by simp) rfl _ 25 rfl rfl
      have hy := yielded6 a had f6 (by rw [h.size]; omega)
      cases had with
      | true => exact iv_val rfl (by unfold Region.wanted; simp only [hy]; rfl) _ (run_fieldOp rfl _ _ _ ((congrArg (fun y => (Instr.fieldAt 51 y 1).run Tryd.prog w) e10).trans (fa 1 (by decide)))) (fun _ => rfl)
      | false => exact iv_not rfl (by unfold Region.wanted; simp only [hy]; rfl) (fun hh => by cases hh)
    · obtain rfl := Option.some.inj ho
      have f6 : a.eval (.tmp 25) = .bool had := h.has ⟨6, .guard⟩ (by simp) rfl _ 25 rfl rfl
      have f7 : had = true → a.eval (.tmp 26) = .pointer (some ⟨p, 1, none⟩) := h.has ⟨7, .data⟩ (by simp) rfl _ 26 rfl rfl
      have hy := yielded6 a had f6 (by rw [h.size]; omega)
      cases had with
      | true => exact iv_val rfl (by unfold Region.wanted; simp only [hy]; rfl) _ (run_loadOp rfl _ _ _ _ (f7 rfl) (load_bool _ _ _ c.2.1)) (fun _ => rfl)
      | false => exact iv_not rfl (by unfold Region.wanted; simp only [hy]; rfl) (fun hh => by cases hh)
    · obtain rfl := Option.some.inj ho
      have f6 : a.eval (.tmp 25) = .bool had := h.has ⟨6, .data⟩ (by simp) rfl _ 25 rfl rfl
      have f8 : had = true → a.eval (.tmp 27) = .bool r.dflt := h.has ⟨8, .data⟩ (by simp) rfl _ 27 rfl rfl
      refine iv_val rfl rfl (.bool (had && r.dflt)) (run_pickOp rfl _ _ had f6 _ ?_) rfl
      cases had with
      | true => exact f8 rfl
      | false => rfl
    · obtain rfl := Option.some.inj ho
      exact iv_val rfl rfl _ (run_fieldOp rfl _ _ _ ((congrArg (fun y => (Instr.fieldAt 51 y 0).run Tryd.prog w) e10).trans (fa 0 (by decide)))) rfl
    · obtain rfl := Option.some.inj ho
      have f2 : a.eval (.tmp 29) = .pointer (some ⟨p, 0, none⟩) := h.has ⟨10, .data⟩ (by simp) rfl _ 29 rfl rfl
      exact iv_val rfl rfl _ (run_loadOp rfl _ _ _ _ f2 (load_int _ _ _ c.1)) rfl
    · obtain rfl := Option.some.inj ho
      have f1 : a.eval (.tmp 28) = .bool (had && r.dflt) := h.has ⟨9, .data⟩ (by simp) rfl _ 28 rfl rfl
      have f3 : a.eval (.tmp 30) = .int .i64 r.pos := h.has ⟨11, .data⟩ (by simp) rfl _ 30 rfl rfl
      exact iv_call rfl rfl 26 #[.bool (had && r.dflt), .int .i64 9, .int .i64 r.pos] (run_callOps rfl cw _ _ _ (by simp only [List.map_toArray, List.map_cons, List.map_nil, f1, f3]; rfl)) ((whenF_any _ _ _ w).mono fun e w' h => ⟨_, h.1, h.2, rfl⟩)
    · obtain rfl := Option.some.inj ho
      exact iv_val rfl rfl _ (run_loadOp rfl _ _ _ _ e10 (load_raw _ _ _ _ bp)) rfl
    · obtain rfl := Option.some.inj ho
      have f1 : a.eval (.tmp 32) = .agg (rawV r u) := h.has ⟨13, .data⟩ (by simp) rfl _ 32 rfl rfl
      exact iv_call rfl rfl 27 #[.agg (rawV r u)] (run_callOps rfl cr _ _ _ (by simp [f1])) ((ruleF_any r u w (clas_below _ _ _ _ B hu)).mono fun e w' h => ⟨_, h.1, h.2, rfl⟩)
    · obtain rfl := Option.some.inj ho
      exact iv_val rfl rfl _ (run_loadOp rfl _ _ _ _ e10 (load_raw _ _ _ _ bp)) rfl
    · obtain rfl := Option.some.inj ho
      have f1 : a.eval (.tmp 34) = .agg (rawV r u) := h.has ⟨15, .data⟩ (by simp) rfl _ 34 rfl rfl
      exact iv_call rfl rfl 28 #[.agg (rawV r u)] (run_callOps rfl ca _ _ _ (by simp [f1])) ((actionF_any r u hul w).mono fun e w' h => ⟨_, h.1, h.2, rfl⟩)
    · obtain rfl := Option.some.inj ho
      have f1 : a.eval (.tmp 23) = .agg (fltV (whenF (decide (64 ≤ k)) 4 r.pos)) := h.has ⟨4, .data⟩ (by simp) rfl _ 23 rfl rfl
      have f2 : a.eval (.tmp 31) = .agg (fltV (whenF (had && r.dflt) 9 r.pos)) := h.has ⟨12, .data⟩ (by simp) rfl _ 31 rfl rfl
      have f3 : a.eval (.tmp 33) = .agg (fltV (lineF r)) := h.has ⟨14, .data⟩ (by simp) rfl _ 33 rfl rfl
      have f4 : a.eval (.tmp 35) = .agg (fltV (actF r)) := h.has ⟨16, .data⟩ (by simp) rfl _ 35 rfl rfl
      refine iv_list rfl ?_
      refine wl_build4F rfl _ _ _ _ rfl _ _ _ _ f1 f2 f3 f4 ?_
      exact ⟨_, rfl, (Below.refl _ _).alloc (Nat.le_refl _) _, fun _ _ => gsl_row (E := FltE) (C := [whenF (decide (64 ≤ k)) 4 r.pos, whenF (had && r.dflt) 9 r.pos, lineF r, actF r]) (fun _ => rfl) (heap_new _ _ _ rfl) (by show 4 ≤ _; decide)⟩
    · obtain rfl := Option.some.inj ho
      have f1 : GSl FltE fltV w (a.eval (.tmp 36)) [whenF (decide (64 ≤ k)) 4 r.pos, whenF (had && r.dflt) 9 r.pos, lineF r, actF r] := h.has ⟨17, .data⟩ (by simp) rfl _ 36 rfl rfl
      refine iv_call rfl rfl 25 #[a.eval (.tmp 36)] (run_callOps rfl cf _ _ _ (by simp)) ((first7_any _ _ w f1).mono fun e w' h => ⟨_, h.1, h.2, ?_⟩)
      show _ = _
      rw [rowF_four]
    · obtain rfl := Option.some.inj ho
      exact iv_alloc FltOk rfl rfl rfl ⟨_, rfl, B.size, heap_new _ _ _ rfl⟩
  · intro a w hb hsz hdf hot hh
    obtain ⟨g, f1, hg, hz⟩ : ∃ g, a.eval (.tmp 11) = .pointer (some ⟨g, 0, none⟩) ∧ w0.heap.size ≤ g ∧ w.heap[g]? = some (.cells FltE.zero FltE.elem (0, 0)) := hh 19 _ 11 (by decide) rfl rfl
    have f2 : a.eval (.tmp 37) = .agg (fltV (rowF k had r)) := hh 18 _ 37 (by decide) rfl rfl
    refine wpOp_of_list rfl ?_
    refine wl_storeE (E := FltE) FltOk rfl _ _ rfl g (fltV (rowF k had r)) (flt_fits _) f1 f2 _ hz rfl _ rfl ?_
    show Q .normal a _
    rw [puts_form hsz hdf hot hDs]
    exact hK _ _ g f1 hg (below_setRow hb hg _) (setRow_heap _ _ _ _ _ _ hz)
end Go.Proofs.YtfamnloobmdhdaaDoor
namespace Go.Proofs.YtfamnloobmdhdaaDoor
open Go Go.RowKit
set_option maxRecDepth 20000

/-- An entry as it lies in memory. -/
def entV (x : Ent) : Array Value := #[.bool x.dflt, .int .i64 x.prio, .int .u32 x.src, .int .i64 x.srcBits, .int .u32 x.dst, .int .i64 x.dstBits, .int .i64 x.slow, .int .i64 x.shigh, .int .i64 x.dlow, .int .i64 x.dhigh, .int .i64 x.proto, .int .i64 x.action]
def EntE : El := ⟨35, 23, 12, 96, #[.bool false, .int .i64 0, .int .u32 0, .int .i64 0, .int .u32 0, .int .i64 0, .int .i64 0, .int .i64 0, .int .i64 0, .int .i64 0, .int .i64 0, .int .i64 0]⟩
theorem EntOk : EntE.Ok := ⟨Tryd.underlying23, ⟨_, Tryd.underlying35, rfl⟩, by kernel_rfl, rfl, by decide, by decide, by decide⟩
theorem ent_fits (x : Ent) : Fits EntE (entV x) := ⟨rfl, by simp [entV, Value.oneCell']⟩

def mean3_ops : List Oper := [
  { dst := some 11, op := .fieldAddr 51 (.tmp 1) 2, type := 0, pos := "sense.go:57", after := #[], guard := none },
  { dst := some 12, op := .fieldAddr 48 (.tmp 11) 0, type := 0, pos := "sense.go:57", after := #[{ on := 0, ground := .data }], guard := none },
  { dst := some 13, op := .load 3 (.tmp 12), type := 3, pos := "sense.go:57", after := #[{ on := 1, ground := .data }], guard := none },
  { dst := some 14, op := .load 51 (.tmp 1), type := 51, pos := "sense.go:57", after := #[], guard := none },
  { dst := some 15, op := .call { callee := .value (.func 49), args := #[.tmp 14], argTypes := #[51] }, type := 3, pos := "sense.go:57", after := #[{ on := 3, ground := .data }], guard := none },
  { dst := some 16, op := .build 35 #[(1, .tmp 13), (7, .const (.int .i64 65535)), (9, .const (.int .i64 65535)), (10, .const (.int .i64 (-1))), (11, .tmp 15)], type := 35, pos := "sense.go:57", after := #[{ on := 2, ground := .data }, { on := 4, ground := .data }], guard := none },
  { dst := some 3, op := .alloc 35, type := 0, pos := "sense.go:57", after := #[], guard := none },
  { dst := none, op := .store 35 (.tmp 3) (.tmp 16), type := 0, pos := "sense.go:57", after := #[{ on := 6, ground := .data }, { on := 5, ground := .data }, { on := 4, ground := .chain }, { on := 0, ground := .phase }, { on := 1, ground := .phase }, { on := 2, ground := .phase }, { on := 3, ground := .phase }, { on := 4, ground := .phase }, { on := 5, ground := .phase }, { on := 6, ground := .phase }], guard := none }]
def mean3_D : List Nat := [11, 12, 13, 14, 15, 16, 3]
def mean3_V (p B : Nat) (r : Raw) (u : Value) (i : Nat) (v : Value) (w : World) : Prop :=
  match i with
  | 0 => v = .pointer (some ⟨p, 2, none⟩)
  | 1 => v = .pointer (some ⟨p, 2, none⟩)
  | 2 => v = .int .i64 r.prio.n
  | 3 => v = .agg (rawV r u)
  | 4 => v = .int .i64 (actOf r)
  | 5 => v = .agg (entV (ent0 r))
  | 6 => ∃ g, v = .pointer (some ⟨g, 0, none⟩) ∧ B ≤ g ∧ w.heap[g]? = some (.cells EntE.zero EntE.elem (0, 0))
  | _ => True
theorem mean3_mono (p B : Nat) (r : Raw) (u : Value) : ∀ j v w w', mean3_V p B r u j v w → Below w.heap.size w w' → mean3_V p B r u j v w' := by
  intro j v w w' h hb
  revert h
  unfold mean3_V
  split <;> intro h <;> first
    | exact h
    | (obtain ⟨g, h1, h2, h3⟩ := h
       exact ⟨g, h1, h2, (hb.block g (Array.getElem?_eq_some_iff.1 h3).1).trans h3⟩)
theorem run_buildOp {o : Oper} {t : Nat} {ps : Array (Nat × Operand)} (ho : o.op = .build t ps) (a : Act) (W : World) (qs : Array (Nat × Value)) (hq : (ps.map fun (i, x) => (i, a.eval x)) = qs) (v : Value) (h : (Instr.build t qs).run Tryd.prog W = .ok v W) : (execOp a.eval o).run Tryd.prog W = .ok (.value v) W := by
  unfold execOp
  simp only [ho, Sem.run_bind, hq, h, Result.andThen_ok, Sem.run_pure]

set_option maxHeartbeats 4000000 in
theorem mean3_region {id : Nat} {Q : Exit → Act → World → Prop} {a0 : Act} {w0 : World} (hs : 72 ≤ a0.tmps.size) (p : Nat) (r : Raw) (u : Value) (h1 : a0.eval (.tmp 1) = .pointer (some ⟨p, 0, none⟩))
    (hp : w0.heap[p]? = some (.cells (rawV r u) 51 (0, 0))) (hul : ∃ o n m, u = .slice o n m)
    (hK : ∀ y w' g, y 3 = .pointer (some ⟨g, 0, none⟩) → w0.heap.size ≤ g → Below w0.heap.size w0 w' → w'.heap[g]? = some (.cells (entV (ent0 r)) 35 (0, 0)) → Q .normal (putsD mean3_D y a0) w') : (Code.region id mean3_ops.toArray true).wp Tryd.prog Q a0 w0 := by
  have hDs : ∀ d ∈ mean3_D, d < a0.tmps.size := fun d hd => by
    have : d < 72 := by
      revert hd; unfold mean3_D; intro hd
      simp only [List.mem_cons, List.not_mem_nil, or_false] at hd
      omega
    omega
  refine region_inv 7 (mean3_V p w0.heap.size r u) mean3_D (by kernel_rfl) rfl (by kernel_rfl) (by decide) hDs (by kernel_rfl) (by kernel_rfl) (mean3_mono p w0.heap.size r u) ?_ ?_
  · intro i o ho hi a w h
    have B : Below w0.heap.size w0 w := (Below.refl _ _).drew.trans h.below
    have e1 : a.eval (.tmp 1) = .pointer (some ⟨p, 0, none⟩) := (h.other 1 (by decide)).trans h1
    have bp : w.heap[p]? = some (.cells (rawV r u) 51 (0, 0)) := (B.block p (Array.getElem?_eq_some_iff.1 hp).1).trans hp
    have c := raw_f bp
    have ca : ∀ vs W, (callFunc 49 vs).run Tryd.prog W = .ok (.enter 49 vs) W := fun vs W => by have hf := Tryd.func49; simp [go_sem]
    rcases (show i = 0 ∨ i = 1 ∨ i = 2 ∨ i = 3 ∨ i = 4 ∨ i = 5 ∨ i = 6 by omega) with rfl | rfl | rfl | rfl | rfl | rfl | rfl
    · obtain rfl := Option.some.inj ho
      exact iv_val rfl rfl _ (run_fieldOp rfl _ _ _ ((congrArg (fun y => (Instr.fieldAt 51 y 2).run Tryd.prog w) e1).trans (show _ = Result.ok (.pointer (some ⟨p, 2, none⟩)) w by simp [go_sem]))) rfl
    · obtain rfl := Option.some.inj ho
      have f0 : a.eval (.tmp 11) = .pointer (some ⟨p, 2, none⟩) := h.has ⟨0, .data⟩ (by simp) rfl _ 11 rfl rfl
      exact iv_val rfl rfl _ (run_fieldOp rfl _ _ _ ((congrArg (fun y => (Instr.fieldAt 48 y 0).run Tryd.prog w) f0).trans (show _ = Result.ok (.pointer (some ⟨p, 2, none⟩)) w by simp [go_sem]))) rfl
    · obtain rfl := Option.some.inj ho
      have f1 : a.eval (.tmp 12) = .pointer (some ⟨p, 2, none⟩) := h.has ⟨1, .data⟩ (by simp) rfl _ 12 rfl rfl
      exact iv_val rfl rfl _ (run_loadOp rfl _ _ _ _ f1 (load_int _ _ _ c.2.2.1)) rfl
    · obtain rfl := Option.some.inj ho
      exact iv_val rfl rfl _ (run_loadOp rfl _ _ _ _ e1 (load_raw _ _ _ _ bp)) rfl
    · obtain rfl := Option.some.inj ho
      have f1 : a.eval (.tmp 14) = .agg (rawV r u) := h.has ⟨3, .data⟩ (by simp) rfl _ 14 rfl rfl
      exact iv_call rfl rfl 49 #[.agg (rawV r u)] (run_callOps rfl ca _ _ _ (by simp [f1])) ((action7_any r u hul w).mono fun e w' h => ⟨_, h.1, h.2, rfl⟩)
    · obtain rfl := Option.some.inj ho
      have f1 : a.eval (.tmp 13) = .int .i64 r.prio.n := h.has ⟨2, .data⟩ (by simp) rfl _ 13 rfl rfl
      have f2 : a.eval (.tmp 15) = .int .i64 (actOf r) := h.has ⟨4, .data⟩ (by simp) rfl _ 15 rfl rfl
      refine iv_val rfl rfl (.agg (entV (ent0 r))) (run_buildOp rfl _ _ #[(1, .int .i64 r.prio.n), (7, .int .i64 65535), (9, .int .i64 65535), (10, .int .i64 (-1)), (11, .int .i64 (actOf r))] (by simp only [List.map_toArray, List.map_cons, List.map_nil, f1, f2]; rfl) _ ?_) rfl
      kernel_rfl
    · obtain rfl := Option.some.inj ho
      exact iv_alloc EntOk rfl rfl rfl ⟨_, rfl, B.size, heap_new _ _ _ rfl⟩
  · intro a w hb hsz hdf hot hh
    obtain ⟨g, f1, hg, hz⟩ : ∃ g, a.eval (.tmp 3) = .pointer (some ⟨g, 0, none⟩) ∧ w0.heap.size ≤ g ∧ w.heap[g]? = some (.cells EntE.zero EntE.elem (0, 0)) := hh 6 _ 3 (by decide) rfl rfl
    have f2 : a.eval (.tmp 16) = .agg (entV (ent0 r)) := hh 5 _ 16 (by decide) rfl rfl
    refine wpOp_of_list rfl ?_
    refine wl_storeE (E := EntE) EntOk rfl _ _ rfl g (entV (ent0 r)) (ent_fits _) f1 f2 _ hz rfl _ rfl ?_
    show Q .normal a _
    rw [puts_form hsz hdf hot hDs]
    exact hK _ _ g f1 hg (below_setRow hb hg _) (setRow_heap _ _ _ _ _ _ hz)
end Go.Proofs.YtfamnloobmdhdaaDoor
namespace Go.Proofs.YtfamnloobmdhdaaDoor
open Go Go.RowKit
set_option maxRecDepth 20000

theorem addr_facts {c : Cla} (h : goodC c) (hw : isAddrW c.word = true) (hp : isPortW c.word = false) (ho : (c.word == wProto) = false) : (c.nums.length = if c.slash then 5 else 4) ∧ ∀ k, k < 4 → 0 ≤ nth c k ∧ nth c k ≤ 255 := by
  have hm : mustN c = if c.slash then 5 else 4 := by unfold mustN; rw [if_pos hw]
  refine ⟨by rw [h.2.1, hm], fun k hk => ?_⟩
  have := nth_in h (k := k) (by rw [hm]; split <;> omega)
  have e : mostN c.word k = 255 := by
    unfold mostN
    rw [hp, ho, if_neg (by decide), if_neg]
    simp only [Bool.and_eq_true, beq_iff_eq]
    omega
  rw [e] at this
  exact ⟨this.1, this.2.1⟩
theorem good_pos {c : Cla} (h : goodC c) : 0 < c.nums.length := by
  have := h.1
  rw [h.2.1]
  omega
/-- The meaning of a line's first clauses. -/
def meanK (x : Raw) (k : Nat) : Ent := (x.clauses.take k).foldl setC (ent0 x)
theorem meanK_next {x : Raw} {k : Nat} {c : Cla} (h : x.clauses[k]? = some c) : meanK x (k + 1) = setC (meanK x k) c := by
  obtain ⟨hk, rfl⟩ := List.getElem?_eq_some_iff.1 h
  unfold meanK
  rw [List.take_succ_eq_append_getElem hk, List.foldl_append]
  rfl
theorem setC_src {x : Ent} {c : Cla} (h : c.word = wSrc) : entV (setC x c) = ((entV x).setIfInBounds 2 (.int .u32 (preC c).1)).setIfInBounds 3 (.int .i64 (preC c).2) := by
  unfold setC; rw [if_pos h]; rfl
theorem setC_dst {x : Ent} {c : Cla} (h : c.word = wDst) : entV (setC x c) = ((entV x).setIfInBounds 4 (.int .u32 (preC c).1)).setIfInBounds 5 (.int .i64 (preC c).2) := by
  unfold setC; rw [if_neg (by rw [h]; decide), if_pos h]; rfl
theorem setC_sport {x : Ent} {c : Cla} (h : c.word = wSport) : entV (setC x c) = ((entV x).setIfInBounds 6 (.int .i64 (porC c).1)).setIfInBounds 7 (.int .i64 (porC c).2) := by
  unfold setC; rw [if_neg (by rw [h]; decide), if_neg (by rw [h]; decide), if_pos h]; rfl
theorem setC_dport {x : Ent} {c : Cla} (h : c.word = wDport) : entV (setC x c) = ((entV x).setIfInBounds 8 (.int .i64 (porC c).1)).setIfInBounds 9 (.int .i64 (porC c).2) := by
  unfold setC; rw [if_neg (by rw [h]; decide), if_neg (by rw [h]; decide), if_neg (by rw [h]; decide), if_pos h]; rfl
theorem setC_proto {x : Ent} {c : Cla} (h : c.word = wProto) : entV (setC x c) = (entV x).setIfInBounds 10 (.int .i64 (nth c 0)) := by
  unfold setC; rw [if_neg (by rw [h]; decide), if_neg (by rw [h]; decide), if_neg (by rw [h]; decide), if_neg (by rw [h]; decide), if_pos h]; rfl
theorem tc_cell {w : World} {g k : Nat} {cs : Array Value} {t : TypeId} {fr : Nat × Nat} (h : w.heap[g]? = some (.cells cs t fr)) (hf : fr = (0, 0)) (i : Nat) (v : Value) (j : Nat) (hj : k ≠ j) (y : Value) (hy : cs[j]? = some y) : (w.setCell ⟨g, k, none⟩ v).cell? ⟨g, j, none⟩ = some y ∧ (w.setCell ⟨g, k, none⟩ v).frozen? ⟨g, i, none⟩ = false := by
  refine ⟨?_, tc_frozen (tc_row h v) hf⟩
  rw [cell_of_row _ _ _ _ _ _ (tc_row h v), Array.getElem?_setIfInBounds_ne hj]
  exact hy
theorem good_word {c : Cla} (h : goodC c) : c.word = wSrc ∨ c.word = wDst ∨ c.word = wSport ∨ c.word = wDport ∨ c.word = wProto := by
  rcases word_cases c.word with h1 | h1 | h1 | h1 | h1 | ⟨e0, e1, e2, e3, e4⟩
  · exact .inl h1
  · exact .inr (.inl h1)
  · exact .inr (.inr (.inl h1))
  · exact .inr (.inr (.inr (.inl h1)))
  · exact .inr (.inr (.inr (.inr h1)))
  · exfalso
    refine h.1 ?_
    unfold mustN isAddrW isPortW wSrc wDst wSport wDport wProto
    simp only [e0, e1, e2, e3, e4]
    rfl

set_option maxHeartbeats 16000000 in
set_option maxRecDepth 100000 in
theorem meaning_any (x : Raw) (u : Value) (w : World) (hu : ClasAt w x u) (hr : x.dflt = false → faultR x = .ok ()) :
    Calls Tryd.prog 29 #[.agg (rawV x u)] w fun e w' => e = .returned (.agg (entV (meaning x))) ∧ Below w.heap.size w w' := by
  have PF : Hid (∀ (c : Cla) (u : Value) W, FigsAt W c u → goodC c → isAddrW c.word = true → isPortW c.word = false → (c.word == wProto) = false → Calls Tryd.prog 50 #[.agg (claV c u)] W fun x w' => x = .returned (.tuple #[.int .u32 (preC c).1, .int .i64 (preC c).2]) ∧ Below W.heap.size W w') := fun c u W h1 h2 h3 h4 h5 => prefix_any c u W h1 (addr_facts h2 h3 h4 h5).1 (addr_facts h2 h3 h4 h5).2
  have PO : Hid (∀ (c : Cla) (u : Value) W, FigsAt W c u → goodC c → Calls Tryd.prog 51 #[.agg (claV c u)] W fun x w' => x = .returned (.tuple #[.int .i64 (porC c).1, .int .i64 (porC c).2]) ∧ Below W.heap.size W w') := fun c u W h1 h2 => ports7_any c u W h1 (good_pos h2)
  obtain ⟨o, cap, rfl, hc1, hc2⟩ := NSl.slice hu
  have AC : Hid (∀ W, Calls Tryd.prog 49 #[.agg (rawV x (.slice o x.clauses.length cap))] W fun e w' => e = .returned (.int .i64 (actOf x)) ∧ Below W.heap.size W w') := fun W => action7_any x _ ⟨_, _, _, rfl⟩ W
  obtain ⟨n, hn⟩ : ∃ n, n = x.clauses.length := ⟨_, rfl⟩
  have HN : Hid (n = x.clauses.length) := hn
  rw [← hn] at hu hc1 AC ⊢
  have HU : Hid (ClasAt w x (.slice o n cap)) := hu
  unfold maxLen at hc2
  have b1 : Hid (((w.alloc (.cells (rawV x (.slice o n cap)) 51)).alloc (.cells EntE.zero 35)).heap[w.heap.size]? = some (.cells (rawV x (.slice o n cap)) 51 (0, 0))) := heap_past _ _ _ _ (heap_new _ _ _ rfl)
  have b2 : Hid (((w.alloc (.cells (rawV x (.slice o n cap)) 51)).alloc (.cells EntE.zero 35)).heap[w.heap.size + 1]? = some (.cells EntE.zero 35 (0, 0))) := heap_new _ _ _ (by simp)
  have B0 : Hid (Below w.heap.size w ((w.alloc (.cells (rawV x (.slice o n cap)) 51)).alloc (.cells EntE.zero 35))) := below2 _ _ _
  have c1 := (raw_f b1.out).2.1
  unfold EntE at c1
  simp only at c1
  clear hu hn
  cases hd : x.dflt with
  | true =>
    have hm : entV (meaning x) = #[.bool true, .int .i64 0, .int .u32 0, .int .i64 0, .int .u32 0, .int .i64 0, .int .i64 0, .int .i64 0, .int .i64 0, .int .i64 0, .int .i64 0, .int .i64 (actOf x)] := by unfold meaning; rw [hd]; rfl
    rw [hm]
    rw [hd] at c1
    clear hm
    go_enter Tryd.func29, Tryd.ntmps29
    go_wp2_with (first
      | (refine wl_loadE (E := RawE) RawOk rfl _ rfl w.heap.size 0 rfl _ _ _ (rawV x (.slice o n cap)) rfl b1.out (own_cells _ _) ?_))
    refine (AC.out _).mono ?_
    rintro e w1 ⟨rfl, hb1⟩
    have k2 : Hid (w1.heap[w.heap.size + 1]? = some (.cells EntE.zero 35 (0, 0))) := (hb1.block _ (by simp)).trans b2.out
    have B1 : Hid (Below w.heap.size w w1) := B0.out.trans (hb1.mono (by simp; omega))
    clear hb1
    go_wp2_with (first
      | (refine wl_storeE (E := EntE) EntOk rfl _ _ rfl (w.heap.size + 1) #[.bool true, .int .i64 0, .int .u32 0, .int .i64 0, .int .u32 0, .int .i64 0, .int .i64 0, .int .i64 0, .int .i64 0, .int .i64 0, .int .i64 0, .int .i64 (actOf x)] ⟨rfl, by simp [Value.oneCell']⟩ rfl rfl _ k2.out rfl _ rfl ?_))
    refine retE (E := EntE) EntOk rfl rfl (w.heap.size + 1) rfl _ rfl (setRow_heap _ _ _ _ _ _ k2.out) ?_
    exact ⟨rfl, below_setRow B1.out (by omega) _⟩
  | false =>
    have hf := hr hd
    have hcs : faultCs [] x.clauses = .ok () := by
      unfold faultR at hf
      split at hf
      · cases hf
      · exact hf
    have GD : Hid (∀ c ∈ x.clauses, goodC c) := faultCs_in _ _ hcs
    have HM : Hid (meanK x n = meaning x) := by
      show _ = _
      unfold meanK
      rw [HN.out, List.take_length]
      exact mean_fold x hd hf
    have HD : Hid (x.dflt = false) := hd
    rw [hd] at c1
    clear hf hcs hd hr
    go_enter Tryd.func29, Tryd.ntmps29
    go_wp2_with fail
    refine mean3_region (by simp) w.heap.size x (.slice o n cap) rfl b1.out ⟨_, _, _, rfl⟩ ?_
    intro y w1 G hy hG hb1 hg1
    simp only [putsD, mean3_D, List.foldl_cons, List.foldl_nil, hy, Act.put, List.setIfInBounds_toArray, List.set_cons_succ, List.set_cons_zero]
    have hG' : w.heap.size + 1 < G := by simp at hG; omega
    have K0 : Hid (w1.heap[G]? = some (.cells (entV (meanK x 0)) 35 (0, 0))) := hg1
    have K1 : Hid (w1.heap[w.heap.size]? = some (.cells (rawV x (.slice o n cap)) 51 (0, 0))) := (hb1.block _ (by simp; omega)).trans b1.out
    have K2 : Hid (w1.heap[w.heap.size + 1]? = some (.cells EntE.zero 35 (0, 0))) := (hb1.block _ (by simp)).trans b2.out
    have B1 : Hid (Below w.heap.size w w1) := B0.out.trans (hb1.mono (by simp; omega))
    have c4 := (raw_f K1.out).2.2.2.1
    clear hb1 hg1 hG hy b1 b2 B0 c1
    go_wp2_with fail
    clear c4
    go_loopw [20] (fun i wr => ∃ k : Nat, k ≤ n ∧ i = .int .i64 (k : Int) ∧ wr.heap[G]? = some (.cells (entV (meanK x k)) 35 (0, 0)) ∧ wr.heap[w.heap.size + 1]? = some (.cells EntE.zero 35 (0, 0)) ∧ Below w.heap.size w wr) (fun i _ => n - (intOf i).toNat)
    case atStart => exact ⟨0, Nat.zero_le _, rfl, K0.out, K2.out, B1.out⟩
    case round =>
      clear K0 K1 K2 B1
      obtain ⟨k, hk, rfl, hr0, hr2, hb⟩ := hrel
      have R0 : Hid (wr.heap[G]? = some (.cells (entV (meanK x k)) 35 (0, 0))) := hr0
      have R2 : Hid (wr.heap[w.heap.size + 1]? = some (.cells EntE.zero 35 (0, 0))) := hr2
      have HB : Hid (Below w.heap.size w wr) := hb
      clear hr0 hr2 hb
      by_cases hlt : k < n
      · have hlt' : (k : Int) < (n : Int) := by omega
        obtain ⟨g, off, cur, ty, fr, c, u', rfl, hg, hc, hCk, hcl⟩ := NSl.at (NSl.below figs_below HU.out HB.out) k hlt
        have hgood := GD.out c (List.mem_of_getElem? hCk)
        have HG0 : Hid (goodC c) := hgood
        have HX : Hid (meanK x (k + 1) = setC (meanK x k) c) := meanK_next hCk
        have K1 : Hid (wr.heap[g]? = some (.cells cur ty fr)) := hg
        have H1 : Hid (∀ i, i < 5 → cur[off + k * 5 + i]? = (claV c u')[i]?) := hc
        have HF : Hid (FigsAt wr c u') := hcl
        have hGr : G < wr.heap.size := (Array.getElem?_eq_some_iff.1 R0.out).1
        obtain ⟨o1, cap1, rfl, hca1, hcb1⟩ := GSl.slice hcl
        obtain ⟨n1, hn1⟩ : ∃ n1, n1 = c.nums.length := ⟨_, rfl⟩
        rw [← hn1] at H1 HF hca1
        have hn0 : 0 < n1 := by rw [hn1]; exact good_pos hgood
        have HN1 : Hid (n1 = c.nums.length) := hn1
        unfold maxLen at hcb1
        have KN : Hid ((wr.alloc (.cells (claV c (.slice o1 n1 cap1)) 54)).heap[wr.heap.size]? = some (.cells (claV c (.slice o1 n1 cap1)) 54 (0, 0))) := heap_new _ _ _ rfl
        have n0 := (cla_f KN.out).1
        have BN : Hid (Below wr.heap.size wr (wr.alloc (.cells (claV c (.slice o1 n1 cap1)) 54))) := (Below.refl _ _).alloc (Nat.le_refl _) _
        have hw := good_word hgood
        clear hg hc hCk hcl hgood hn1
        rcases hw with hw | hw | hw | hw | hw
        · have HW : Hid (c.word = wSrc) := hw
          rw [hw] at n0
          have HS : Hid (entV (meanK x (k + 1)) = ((entV (meanK x k)).setIfInBounds 2 (.int .u32 (preC c).1)).setIfInBounds 3 (.int .i64 (preC c).2)) := by show _ = _; rw [HX.out]; exact setC_src hw
          clear hw
          unfold wSrc at n0
          go_wp2_with (first
          | (refine wl_loadE (E := ClaE) ClaOk rfl _ rfl g (off + k * 5) rfl cur ty fr (claV c (.slice o1 n1 cap1)) rfl K1.out H1.out ?_)
          | (refine wl_storeE (E := ClaE) ClaOk rfl _ _ rfl wr.heap.size (claV c (.slice o1 n1 cap1)) ⟨rfl, by simp [claV, Value.oneCell']⟩ rfl rfl _ (heap_new _ _ _ rfl) rfl _ (setRow_new _ _ _ _ _ rfl) ?_)
            | (refine wl_loadE (E := ClaE) ClaOk rfl _ rfl wr.heap.size 0 rfl _ _ _ (claV c (.slice o1 n1 cap1)) rfl KN.out (own_cells _ _) ?_))
          refine (PF.out c _ _ (figs_below _ _ _ _ BN.out HF.out) HG0.out (by rw [HW.out]; decide) (by rw [HW.out]; decide) (by rw [HW.out]; decide)).mono ?_
          rintro e w2 ⟨rfl, hb2⟩
          have B2 : Hid (Below wr.heap.size wr w2) := BN.out.trans (hb2.mono BN.out.size)
          have g2 : w2.heap[G]? = some (.cells (entV (meanK x k)) 35 (0, 0)) := (B2.out.block G hGr).trans R0.out
          have q1 : w2.cell? ⟨G, 2, none⟩ = some (.int .u32 (meanK x k).src) := by rw [cell_of_row _ _ _ _ _ _ g2]; rfl
          have z1 : w2.frozen? ⟨G, 2, none⟩ = false := tc_frozen g2 rfl
          obtain ⟨q2, z2⟩ := tc_cell (k := 2) g2 rfl 3 (.int .u32 (preC c).1) 3 (by decide) (.int .i64 (meanK x k).srcBits) rfl
          have G3 : Hid (((w2.setCell ⟨G, 2, none⟩ (.int .u32 (preC c).1)).setCell ⟨G, 3, none⟩ (.int .i64 (preC c).2)).heap[G]? = some (.cells (entV (meanK x (k + 1))) 35 (0, 0))) := by show _ = _; rw [HS.out]; exact tc_row (tc_row g2 _) _
          have R3 : Hid (((w2.setCell ⟨G, 2, none⟩ (.int .u32 (preC c).1)).setCell ⟨G, 3, none⟩ (.int .i64 (preC c).2)).heap[w.heap.size + 1]? = some (.cells EntE.zero 35 (0, 0))) := (tc_far (by omega) _).trans ((tc_far (by omega) _).trans ((B2.out.block _ (by omega)).trans R2.out))
          have B3 : Hid (Below w.heap.size w ((w2.setCell ⟨G, 2, none⟩ (.int .u32 (preC c).1)).setCell ⟨G, 3, none⟩ (.int .i64 (preC c).2))) := tc_below (tc_below (HB.out.trans (B2.out.mono HB.out.size)) (by omega) _ _) (by omega) _ _
          clear hb2 g2 n0
          go_wp2_with fail
          go_roundw
          case rel => exact ⟨k + 1, by omega, by go_num, G3.out, R3.out, B3.out⟩
          case measure => simp [intOf]; omega
        · have HW : Hid (c.word = wDst) := hw
          rw [hw] at n0
          have HS : Hid (entV (meanK x (k + 1)) = ((entV (meanK x k)).setIfInBounds 4 (.int .u32 (preC c).1)).setIfInBounds 5 (.int .i64 (preC c).2)) := by show _ = _; rw [HX.out]; exact setC_dst hw
          clear hw
          unfold wDst at n0
          go_wp2_with (first
          | (refine wl_loadE (E := ClaE) ClaOk rfl _ rfl g (off + k * 5) rfl cur ty fr (claV c (.slice o1 n1 cap1)) rfl K1.out H1.out ?_)
          | (refine wl_storeE (E := ClaE) ClaOk rfl _ _ rfl wr.heap.size (claV c (.slice o1 n1 cap1)) ⟨rfl, by simp [claV, Value.oneCell']⟩ rfl rfl _ (heap_new _ _ _ rfl) rfl _ (setRow_new _ _ _ _ _ rfl) ?_)
            | (refine wl_loadE (E := ClaE) ClaOk rfl _ rfl wr.heap.size 0 rfl _ _ _ (claV c (.slice o1 n1 cap1)) rfl KN.out (own_cells _ _) ?_))
          refine (PF.out c _ _ (figs_below _ _ _ _ BN.out HF.out) HG0.out (by rw [HW.out]; decide) (by rw [HW.out]; decide) (by rw [HW.out]; decide)).mono ?_
          rintro e w2 ⟨rfl, hb2⟩
          have B2 : Hid (Below wr.heap.size wr w2) := BN.out.trans (hb2.mono BN.out.size)
          have g2 : w2.heap[G]? = some (.cells (entV (meanK x k)) 35 (0, 0)) := (B2.out.block G hGr).trans R0.out
          have q1 : w2.cell? ⟨G, 4, none⟩ = some (.int .u32 (meanK x k).dst) := by rw [cell_of_row _ _ _ _ _ _ g2]; rfl
          have z1 : w2.frozen? ⟨G, 4, none⟩ = false := tc_frozen g2 rfl
          obtain ⟨q2, z2⟩ := tc_cell (k := 4) g2 rfl 5 (.int .u32 (preC c).1) 5 (by decide) (.int .i64 (meanK x k).dstBits) rfl
          have G3 : Hid (((w2.setCell ⟨G, 4, none⟩ (.int .u32 (preC c).1)).setCell ⟨G, 5, none⟩ (.int .i64 (preC c).2)).heap[G]? = some (.cells (entV (meanK x (k + 1))) 35 (0, 0))) := by show _ = _; rw [HS.out]; exact tc_row (tc_row g2 _) _
          have R3 : Hid (((w2.setCell ⟨G, 4, none⟩ (.int .u32 (preC c).1)).setCell ⟨G, 5, none⟩ (.int .i64 (preC c).2)).heap[w.heap.size + 1]? = some (.cells EntE.zero 35 (0, 0))) := (tc_far (by omega) _).trans ((tc_far (by omega) _).trans ((B2.out.block _ (by omega)).trans R2.out))
          have B3 : Hid (Below w.heap.size w ((w2.setCell ⟨G, 4, none⟩ (.int .u32 (preC c).1)).setCell ⟨G, 5, none⟩ (.int .i64 (preC c).2))) := tc_below (tc_below (HB.out.trans (B2.out.mono HB.out.size)) (by omega) _ _) (by omega) _ _
          clear hb2 g2 n0
          go_wp2_with fail
          go_roundw
          case rel => exact ⟨k + 1, by omega, by go_num, G3.out, R3.out, B3.out⟩
          case measure => simp [intOf]; omega
        · have HW : Hid (c.word = wSport) := hw
          rw [hw] at n0
          have HS : Hid (entV (meanK x (k + 1)) = ((entV (meanK x k)).setIfInBounds 6 (.int .i64 (porC c).1)).setIfInBounds 7 (.int .i64 (porC c).2)) := by show _ = _; rw [HX.out]; exact setC_sport hw
          clear hw
          unfold wSport at n0
          go_wp2_with (first
          | (refine wl_loadE (E := ClaE) ClaOk rfl _ rfl g (off + k * 5) rfl cur ty fr (claV c (.slice o1 n1 cap1)) rfl K1.out H1.out ?_)
          | (refine wl_storeE (E := ClaE) ClaOk rfl _ _ rfl wr.heap.size (claV c (.slice o1 n1 cap1)) ⟨rfl, by simp [claV, Value.oneCell']⟩ rfl rfl _ (heap_new _ _ _ rfl) rfl _ (setRow_new _ _ _ _ _ rfl) ?_)
            | (refine wl_loadE (E := ClaE) ClaOk rfl _ rfl wr.heap.size 0 rfl _ _ _ (claV c (.slice o1 n1 cap1)) rfl KN.out (own_cells _ _) ?_))
          refine (PO.out c _ _ (figs_below _ _ _ _ BN.out HF.out) HG0.out).mono ?_
          rintro e w2 ⟨rfl, hb2⟩
          have B2 : Hid (Below wr.heap.size wr w2) := BN.out.trans (hb2.mono BN.out.size)
          have g2 : w2.heap[G]? = some (.cells (entV (meanK x k)) 35 (0, 0)) := (B2.out.block G hGr).trans R0.out
          have q1 : w2.cell? ⟨G, 6, none⟩ = some (.int .i64 (meanK x k).slow) := by rw [cell_of_row _ _ _ _ _ _ g2]; rfl
          have z1 : w2.frozen? ⟨G, 6, none⟩ = false := tc_frozen g2 rfl
          obtain ⟨q2, z2⟩ := tc_cell (k := 6) g2 rfl 7 (.int .i64 (porC c).1) 7 (by decide) (.int .i64 (meanK x k).shigh) rfl
          have G3 : Hid (((w2.setCell ⟨G, 6, none⟩ (.int .i64 (porC c).1)).setCell ⟨G, 7, none⟩ (.int .i64 (porC c).2)).heap[G]? = some (.cells (entV (meanK x (k + 1))) 35 (0, 0))) := by show _ = _; rw [HS.out]; exact tc_row (tc_row g2 _) _
          have R3 : Hid (((w2.setCell ⟨G, 6, none⟩ (.int .i64 (porC c).1)).setCell ⟨G, 7, none⟩ (.int .i64 (porC c).2)).heap[w.heap.size + 1]? = some (.cells EntE.zero 35 (0, 0))) := (tc_far (by omega) _).trans ((tc_far (by omega) _).trans ((B2.out.block _ (by omega)).trans R2.out))
          have B3 : Hid (Below w.heap.size w ((w2.setCell ⟨G, 6, none⟩ (.int .i64 (porC c).1)).setCell ⟨G, 7, none⟩ (.int .i64 (porC c).2))) := tc_below (tc_below (HB.out.trans (B2.out.mono HB.out.size)) (by omega) _ _) (by omega) _ _
          clear hb2 g2 n0
          go_wp2_with fail
          go_roundw
          case rel => exact ⟨k + 1, by omega, by go_num, G3.out, R3.out, B3.out⟩
          case measure => simp [intOf]; omega
        · have HW : Hid (c.word = wDport) := hw
          rw [hw] at n0
          have HS : Hid (entV (meanK x (k + 1)) = ((entV (meanK x k)).setIfInBounds 8 (.int .i64 (porC c).1)).setIfInBounds 9 (.int .i64 (porC c).2)) := by show _ = _; rw [HX.out]; exact setC_dport hw
          clear hw
          unfold wDport at n0
          go_wp2_with (first
          | (refine wl_loadE (E := ClaE) ClaOk rfl _ rfl g (off + k * 5) rfl cur ty fr (claV c (.slice o1 n1 cap1)) rfl K1.out H1.out ?_)
          | (refine wl_storeE (E := ClaE) ClaOk rfl _ _ rfl wr.heap.size (claV c (.slice o1 n1 cap1)) ⟨rfl, by simp [claV, Value.oneCell']⟩ rfl rfl _ (heap_new _ _ _ rfl) rfl _ (setRow_new _ _ _ _ _ rfl) ?_)
            | (refine wl_loadE (E := ClaE) ClaOk rfl _ rfl wr.heap.size 0 rfl _ _ _ (claV c (.slice o1 n1 cap1)) rfl KN.out (own_cells _ _) ?_))
          refine (PO.out c _ _ (figs_below _ _ _ _ BN.out HF.out) HG0.out).mono ?_
          rintro e w2 ⟨rfl, hb2⟩
          have B2 : Hid (Below wr.heap.size wr w2) := BN.out.trans (hb2.mono BN.out.size)
          have g2 : w2.heap[G]? = some (.cells (entV (meanK x k)) 35 (0, 0)) := (B2.out.block G hGr).trans R0.out
          have q1 : w2.cell? ⟨G, 8, none⟩ = some (.int .i64 (meanK x k).dlow) := by rw [cell_of_row _ _ _ _ _ _ g2]; rfl
          have z1 : w2.frozen? ⟨G, 8, none⟩ = false := tc_frozen g2 rfl
          obtain ⟨q2, z2⟩ := tc_cell (k := 8) g2 rfl 9 (.int .i64 (porC c).1) 9 (by decide) (.int .i64 (meanK x k).dhigh) rfl
          have G3 : Hid (((w2.setCell ⟨G, 8, none⟩ (.int .i64 (porC c).1)).setCell ⟨G, 9, none⟩ (.int .i64 (porC c).2)).heap[G]? = some (.cells (entV (meanK x (k + 1))) 35 (0, 0))) := by show _ = _; rw [HS.out]; exact tc_row (tc_row g2 _) _
          have R3 : Hid (((w2.setCell ⟨G, 8, none⟩ (.int .i64 (porC c).1)).setCell ⟨G, 9, none⟩ (.int .i64 (porC c).2)).heap[w.heap.size + 1]? = some (.cells EntE.zero 35 (0, 0))) := (tc_far (by omega) _).trans ((tc_far (by omega) _).trans ((B2.out.block _ (by omega)).trans R2.out))
          have B3 : Hid (Below w.heap.size w ((w2.setCell ⟨G, 8, none⟩ (.int .i64 (porC c).1)).setCell ⟨G, 9, none⟩ (.int .i64 (porC c).2))) := tc_below (tc_below (HB.out.trans (B2.out.mono HB.out.size)) (by omega) _ _) (by omega) _ _
          clear hb2 g2 n0
          go_wp2_with fail
          go_roundw
          case rel => exact ⟨k + 1, by omega, by go_num, G3.out, R3.out, B3.out⟩
          case measure => simp [intOf]; omega
        · have HS : Hid (entV (meanK x (k + 1)) = (entV (meanK x k)).setIfInBounds 10 (.int .i64 (nth c 0))) := by show _ = _; rw [HX.out]; exact setC_proto hw
          rw [hw] at n0
          clear hw
          unfold wProto at n0
          obtain ⟨g1, off1, cur1, ty1, fr1, f, rfl, hg1, hc1', hf1⟩ := HF.out.at 0 hn0
          have hnf := nth_q hf1
          have cg : (wr.alloc (.cells (claV c (.slice (some ⟨g1, off1, none⟩) n1 cap1)) 54)).cell? ⟨g1, off1, none⟩ = some (.int .i64 (nth c 0)) := by
            rw [cell_of_row _ _ _ _ _ _ (heap_past _ _ _ _ hg1), hnf]
            have := hc1' 0 (by decide)
            rw [show off1 + 0 * FigE.size + 0 = off1 by simp] at this
            exact this
          have n2 := (cla_f KN.out).2.2.1
          have g2 : (wr.alloc (.cells (claV c (.slice (some ⟨g1, off1, none⟩) n1 cap1)) 54)).heap[G]? = some (.cells (entV (meanK x k)) 35 (0, 0)) := (BN.out.block G hGr).trans R0.out
          have q1 : (wr.alloc (.cells (claV c (.slice (some ⟨g1, off1, none⟩) n1 cap1)) 54)).cell? ⟨G, 10, none⟩ = some (.int .i64 (meanK x k).proto) := by rw [cell_of_row _ _ _ _ _ _ g2]; rfl
          have z1 : (wr.alloc (.cells (claV c (.slice (some ⟨g1, off1, none⟩) n1 cap1)) 54)).frozen? ⟨G, 10, none⟩ = false := tc_frozen g2 rfl
          have hp0 : (0 : Int) < (n1 : Int) := by omega
          obtain ⟨N, hN⟩ : ∃ N, N = nth c 0 := ⟨_, rfl⟩
          rw [← hN] at cg HS
          have G3 : Hid (((wr.setCell ⟨G, 10, none⟩ (.int .i64 N)).alloc (.cells (claV c (.slice (some ⟨g1, off1, none⟩) n1 cap1)) 54)).heap[G]? = some (.cells (entV (meanK x (k + 1))) 35 (0, 0))) := by show _ = _; rw [HS.out]; exact heap_past _ _ _ _ (tc_row R0.out _)
          have R3 : Hid (((wr.setCell ⟨G, 10, none⟩ (.int .i64 N)).alloc (.cells (claV c (.slice (some ⟨g1, off1, none⟩) n1 cap1)) 54)).heap[w.heap.size + 1]? = some (.cells EntE.zero 35 (0, 0))) := heap_past _ _ _ _ ((tc_far (by omega) _).trans R2.out)
          have B3 : Hid (Below w.heap.size w ((wr.setCell ⟨G, 10, none⟩ (.int .i64 N)).alloc (.cells (claV c (.slice (some ⟨g1, off1, none⟩) n1 cap1)) 54))) := (tc_below HB.out (by omega) _ _).alloc (tc_below HB.out (by omega) _ _).size _
          clear hg1 hc1' hf1 hnf g2 hN
          go_wp2_with (first
          | (refine wl_loadE (E := ClaE) ClaOk rfl _ rfl g (off + k * 5) rfl cur ty fr (claV c (.slice (some ⟨g1, off1, none⟩) n1 cap1)) rfl K1.out H1.out ?_)
          | (refine wl_storeE (E := ClaE) ClaOk rfl _ _ rfl wr.heap.size (claV c (.slice (some ⟨g1, off1, none⟩) n1 cap1)) ⟨rfl, by simp [claV, Value.oneCell']⟩ rfl rfl _ (heap_new _ _ _ rfl) rfl _ (setRow_new _ _ _ _ _ rfl) ?_)
            | fail)
          go_roundw
          case rel => exact ⟨k + 1, by omega, by go_num, G3.out, R3.out, B3.out⟩
          case measure => simp [intOf]; omega
      · have hlt' : (n : Int) ≤ (k : Int) := by omega
        obtain rfl : k = n := by omega
        clear hlt
        go_wp2_with (first
          | (refine wl_loadE (E := EntE) EntOk rfl _ rfl G 0 rfl _ _ _ (entV (meanK x k)) rfl R0.out (own_cells _ _) ?_)
          | (refine wl_storeE (E := EntE) EntOk rfl _ _ rfl (w.heap.size + 1) (entV (meanK x k)) (ent_fits _) rfl rfl _ R2.out rfl _ rfl ?_))
        refine retE (E := EntE) EntOk rfl rfl (w.heap.size + 1) rfl (entV (meanK x k)) rfl (setRow_heap _ _ _ _ _ _ R2.out) ?_
        exact ⟨by rw [HM.out], below_setRow HB.out (by omega) _⟩
end Go.Proofs.YtfamnloobmdhdaaDoor
