import Derived.Test.YtfbphblodankmaaQTail
namespace Go.Proofs.Ytfbphblodankmaa
open Go Go.RowKit
set_option maxRecDepth 20000

/-- A cube's cells: its value's, then its mask's. -/
def cv (V M : List Int) : Array Value := hv (V ++ M)
theorem cv_size (V M : List Int) (hV : V.length = 13) (hM : M.length = 13) : (cv V M).size = 26 := by
  unfold cv; rw [hv_size, List.length_append, hV, hM]
theorem cv_one (V M : List Int) : (cv V M).all (·.oneCell') = true := hv_one _
theorem hv_get (L : List Int) (k : Nat) (hk : k < L.length) : (hv L)[k]? = some (.int .u8 (L.getD k 0)) := by
  unfold hv
  simp [List.getElem?_map, List.getElem?_eq_getElem hk, List.getD]
theorem cv_val (V M : List Int) (hV : V.length = 13) (k : Nat) (hk : k < 13) : (cv V M)[k]? = some (.int .u8 (V.getD k 0)) := by
  unfold cv hv
  simp [List.getElem?_append, hV, hk, List.getD]
theorem cv_mask (V M : List Int) (hV : V.length = 13) (hM : M.length = 13) (k : Nat) (hk : k < 13) : (cv V M)[13 + k]? = some (.int .u8 (M.getD k 0)) := by
  unfold cv hv
  simp [List.getElem?_append, hV, List.getElem?_eq_getElem (show k < M.length by omega), List.getD]
theorem cv_set_val (V M : List Int) (hV : V.length = 13) (k : Nat) (hk : k < 13) (x : Int) : (cv V M).setIfInBounds k (.int .u8 x) = cv (V.set k x) M := by
  unfold cv
  rw [hv_set, List.set_append_left _ _ (by omega)]
theorem cv_set_mask (V M : List Int) (hV : V.length = 13) (k : Nat) (x : Int) : (cv V M).setIfInBounds (13 + k) (.int .u8 x) = cv V (M.set k x) := by
  unfold cv
  rw [hv_set, List.set_append_right _ _ (by omega), hV, Nat.add_sub_cancel_left]

abbrev zeroC : Array Value := #[.int .u8 0, .int .u8 0, .int .u8 0, .int .u8 0, .int .u8 0, .int .u8 0, .int .u8 0, .int .u8 0, .int .u8 0, .int .u8 0, .int .u8 0, .int .u8 0, .int .u8 0, .int .u8 0, .int .u8 0, .int .u8 0, .int .u8 0, .int .u8 0, .int .u8 0, .int .u8 0, .int .u8 0, .int .u8 0, .int .u8 0, .int .u8 0, .int .u8 0, .int .u8 0]
/-- Thirteen noughts. -/
def Z : List Int := mk fun _ => false
theorem Z_eq : Z = [0, 0, 0, 0, 0, 0, 0, 0, 0, 0, 0, 0, 0] := by kernel_rfl
theorem zeroC_eq : zeroC = cv Z Z := by rw [Z_eq]; rfl
theorem zero26_eq : zero26 = hv Z := by rw [Z_eq]; rfl
theorem Z_byt : Byt Z := mk_byt _
theorem Z_bt (i : Nat) (hi : i < 104) : bt Z i = false := mk_bt _ i hi

theorem sizeC (V M : List Int) (hV : V.length = 13) (hM : M.length = 13) : (Try.prog.info? 36).map (·.size) = some (cv V M).size := by
  rw [cv_size V M hV hM]; kernel_rfl

theorem wl_loadC {ops : Array Oper} {rest : List Oper} {o : Oper} {a : Act} {w : World} {Q : Exit → Act → World → Prop} (hgd : o.guard = none) (x : Operand) (ho : o.op = .load 36 x)
    (g : Nat) (hx : a.eval x = .pointer (some ⟨g, 0, none⟩)) (V M : List Int) (hg : w.heap[g]? = some (.cells (cv V M) 36 (0, 0))) (hV : V.length = 13) (hM : M.length = 13)
    (h : wpList Try.prog ops Q rest (a.put o.dst (.agg (cv V M))) w) : wpList Try.prog ops Q (o :: rest) a w :=
  wpList_load_row hgd 36 x ho g hx 36 (cv V M) (0, 0) _ hg Try.underlying36 rfl (sizeC V M hV hM) h
theorem wl_loadCg {ops : Array Oper} {rest : List Oper} {o : Oper} {a : Act} {w : World} {Q : Exit → Act → World → Prop} (hw : Region.wanted o (yielded ops a.tmps) = true) (x : Operand) (ho : o.op = .load 36 x)
    (g : Nat) (hx : a.eval x = .pointer (some ⟨g, 0, none⟩)) (V M : List Int) (hg : w.heap[g]? = some (.cells (cv V M) 36 (0, 0))) (hV : V.length = 13) (hM : M.length = 13)
    (h : wpList Try.prog ops Q rest (a.put o.dst (.agg (cv V M))) w) : wpList Try.prog ops Q (o :: rest) a w := by
  refine wpList_step fun K hK => ?_
  rw [if_pos hw]
  exact wp_load_row 36 x ho g hx 36 (cv V M) (0, 0) _ hg Try.underlying36 rfl (sizeC V M hV hM) (hK _ _ h)
theorem wl_loadHg {ops : Array Oper} {rest : List Oper} {o : Oper} {a : Act} {w : World} {Q : Exit → Act → World → Prop} (hw : Region.wanted o (yielded ops a.tmps) = true) (x : Operand) (ho : o.op = .load 34 x)
    (g : Nat) (hx : a.eval x = .pointer (some ⟨g, 0, none⟩)) (L : List Int) (hg : w.heap[g]? = some (.cells (hv L) 34 (0, 0))) (hL : L.length = 13)
    (h : wpList Try.prog ops Q rest (a.put o.dst (.agg (hv L))) w) : wpList Try.prog ops Q (o :: rest) a w := by
  refine wpList_step fun K hK => ?_
  rw [if_pos hw]
  exact wp_load_row 34 x ho g hx 34 (hv L) (0, 0) _ hg Try.underlying34 rfl (size26 L hL) (hK _ _ h)
theorem wl_storeC {ops : Array Oper} {rest : List Oper} {o : Oper} {a : Act} {w : World} {Q : Exit → Act → World → Prop} (hgd : o.guard = none) (x y : Operand) (ho : o.op = .store 36 x y)
    (g : Nat) (V M : List Int) (hx : a.eval x = .pointer (some ⟨g, 0, none⟩)) (hy : a.eval y = .agg (cv V M)) (old : Array Value) (hg : w.heap[g]? = some (.cells old 36 (0, 0))) (hold : old.size = 26) (hV : V.length = 13) (hM : M.length = 13)
    (w' : World) (hw' : w.setRow g (cv V M) = w')
    (h : wpList Try.prog ops Q rest (a.put o.dst undef) w') : wpList Try.prog ops Q (o :: rest) a w :=
  wpList_store_row hgd 36 x y ho g (cv V M) hx hy 36 old hg (sizeC V M hV hM) (by rw [cv_size V M hV hM, hold]) (cv_one V M) (by rw [hw']; exact h)
theorem retC {fn : Func} {R : Ending → World → Prop} {a : Act} {w : World} {p : Tmp} (hr : fn.results = #[.cell p 36]) (hd : a.defers = []) (g : Nat) (hp : a.tmps.getD p undef = .pointer (some ⟨g, 0, none⟩)) (V M : List Int) (hV : V.length = 13) (hM : M.length = 13)
    (hg : w.heap[g]? = some (.cells (cv V M) 36 (0, 0))) (h : R (.returned (.agg (cv V M))) w) : bodyPost Try.prog fn R .ret a w :=
  bodyPost_ret (v := .agg (cv V M)) (results_cell_row hr _ _ g 36 (cv V M) (0, 0) _ hp hg Try.underlying36 rfl (sizeC V M hV hM)) hd h

theorem part_val (V M : List Int) (hV : V.length = 13) (w : World) : (part 34 (cv V M) 0).run Try.prog w = .ok (.agg (hv V)) w := by
  have hz : ∀ w, (sizeOf 34).run Try.prog w = .ok 13 w := fun w => by kernel_rfl
  have ha : ∀ w, (isAgg 34).run Try.prog w = .ok true w := fun w => by kernel_rfl
  have e : (cv V M).extract 0 13 = hv V := by
    unfold cv hv
    simp [hV]
  simp [part, ha, hz, Sem.run_bind, e]
theorem part_mask (V M : List Int) (hV : V.length = 13) (hM : M.length = 13) (w : World) : (part 34 (cv V M) 13).run Try.prog w = .ok (.agg (hv M)) w := by
  have hz : ∀ w, (sizeOf 34).run Try.prog w = .ok 13 w := fun w => by kernel_rfl
  have ha : ∀ w, (isAgg 34).run Try.prog w = .ok true w := fun w => by kernel_rfl
  have e : (cv V M).extract 13 26 = hv M := by
    unfold cv hv
    simp [hV, List.take_of_length_le, hM]
  simp [part, ha, hz, Sem.run_bind, e]

theorem eqC (V M V' M' : List Int) (hV : V.length = 13) (hM : M.length = 13) (hV' : V'.length = 13) (hM' : M'.length = 13) (w : World) :
    (Op.equalIn 10000 36 (.agg (cv V M)) (.agg (cv V' M'))).run Try.prog w = .ok (V == V' && M == M') w := by
  have eH : ∀ A B : List Int, A.length = 13 → B.length = 13 → ∀ w, (Op.equalIn 9999 34 (.agg (hv A)) (.agg (hv B))).run Try.prog w = .ok (A == B) w := fun A B hA hB w => by
    have z5 : (sizeOf 5).run Try.prog w = .ok 1 w := by kernel_rfl
    rw [show (9999 : Nat) = 9998 + 1 from rfl, Op.equalIn]
    simp only [Sem.run_bind, run_underlying Try.underlying34, Result.andThen_ok, z5]
    simp only [Std.Legacy.Range.forIn_eq_forIn_range', Std.Legacy.Range.size, Nat.sub_zero, Nat.add_sub_cancel, Nat.div_one]
    rw [← all_eq A B hA hB]
    exact loopN 9997 A B hA hB w _ rfl rfl (List.range' 0 13) (fun i hi => by simp at hi; omega)
  rw [show (10000 : Nat) = 9999 + 1 from rfl, run_equalIn_struct w 9999 36 _ _ (by kernel_rfl) (by kernel_rfl)]
  rw [show (Try.prog.fieldsOf 36).toList = [{ name := "Value", type := 34, offset := 0, embedded := false, tag := "", pkgPath := "", byteOffset := 0 }, { name := "Mask", type := 34, offset := 13, embedded := false, tag := "", pkgPath := "", byteOffset := 13 }] from by kernel_rfl]
  simp only [Op.eqFields, ne_eq, String.reduceEq, not_false_eq_true, if_true, Sem.run_bind]
  simp only [part_val V M hV, part_val V' M' hV', Result.andThen_ok, eH V V' hV hV']
  cases hA : (V == V')
  · simp
  · simp only [Bool.not_true, Bool.false_eq_true, if_false, Sem.run_bind, part_mask V M hV hM, part_mask V' M' hV' hM', Result.andThen_ok, eH M M' hM hM']
    cases hB : (M == M') <;> simp
theorem egC (op : BinOp) (x y : Operand) (xs ys : Array Value) (w : World) : (eqGuard op 36 x y (.agg xs) (.agg ys)).run Try.prog w = .ok () w :=
  run_eqGuard_agg w op 36 x y xs ys (by kernel_rfl)
theorem egH (op : BinOp) (x y : Operand) (xs ys : Array Value) (w : World) : (eqGuard op 34 x y (.agg xs) (.agg ys)).run Try.prog w = .ok () w :=
  run_eqGuard_agg w op 34 x y xs ys (by kernel_rfl)

theorem qlH {W : World} {ops : Array Oper} {Q : Act → Prop} {rest : List Oper} {o : Oper} {a : Act} (hw : Region.wanted o (yielded ops a.tmps) = true) (x : Operand) (ho : o.op = .load 34 x)
    (g : Nat) (hx : a.eval x = .pointer (some ⟨g, 0, none⟩)) (L : List Int) (hg : W.heap[g]? = some (.cells (hv L) 34 (0, 0))) (hL : L.length = 13)
    (h : wpQuiet Try.prog ops (fun w' => ∃ u : Later W, w' = u.world) Q rest (a.put o.dst (.agg (hv L)))) : wpQuiet Try.prog ops (fun w' => ∃ u : Later W, w' = u.world) Q (o :: rest) a :=
  q_load_row hw 34 x ho g hx 34 (hv L) (0, 0) _ (later_block hg) Try.underlying34 rfl (size26 L hL) h
theorem qlC {W : World} {ops : Array Oper} {Q : Act → Prop} {rest : List Oper} {o : Oper} {a : Act} (hw : Region.wanted o (yielded ops a.tmps) = true) (x : Operand) (ho : o.op = .load 36 x)
    (g : Nat) (hx : a.eval x = .pointer (some ⟨g, 0, none⟩)) (V M : List Int) (hg : W.heap[g]? = some (.cells (cv V M) 36 (0, 0))) (hV : V.length = 13) (hM : M.length = 13)
    (h : wpQuiet Try.prog ops (fun w' => ∃ u : Later W, w' = u.world) Q rest (a.put o.dst (.agg (cv V M)))) : wpQuiet Try.prog ops (fun w' => ∃ u : Later W, w' = u.world) Q (o :: rest) a :=
  q_load_row hw 36 x ho g hx 36 (cv V M) (0, 0) _ (later_block hg) Try.underlying36 rfl (sizeC V M hV hM) h
/-- One byte is read, in any world above. -/
theorem later_cell {W : World} {g k : Nat} {cs : Array Value} {t : TypeId} {v : Value} (hg : W.heap[g]? = some (.cells cs t (0, 0))) (hk : cs[k]? = some v) : ∀ u : Later W, u.world.cell? ⟨g, k, none⟩ = some v := fun u => by
  rw [cell_of_row u.world _ _ _ _ _ (later_block hg _ ⟨u, rfl⟩)]; exact hk
end Go.Proofs.Ytfbphblodankmaa
