import Derived.Test.YtjmbdoiibchokaaJ1
import Derived.Laws.CopyRow
import Derived.Lib.BitFns
import Derived.Great.BuildSlice
import Derived.Laws.AppendOwn
import Derived.Laws.OwnMore
import Derived.WalkMore
import Derived.Test.YtjmbdoiibchokaaRows
import Derived.ProofKit
import Derived.OpenShut
import Derived.Carry
import Derived.Test.YtjmbdoiibchokaaProg
import Derived.Lib.UnsafeStr
import Derived.Laws.AppendOwnNone
import Derived.Laws.BytesArg
import Derived.Maps.AppendAt
import Derived.Deep.Slices
import Derived.SizedLaws
namespace Go.Proofs.Ytjmbdoiibchokaa
open Go Go.RowKit
set_option maxRecDepth 20000

/-- A cube's cells: its value's, then its mask's. -/
def cv (V M : List Int) : Array Value := hv (V ++ M)
theorem cv_size (V M : List Int) (hV : V.length = 13) (hM : M.length = 13) : (cv V M).size = 26 := by
  unfold cv; rw [hv_size, List.length_append, hV, hM]
theorem cv_one (V M : List Int) : (cv V M).all (·.oneCell') = true := hv_one _
theorem cv_val (V M : List Int) (hV : V.length = 13) (k : Nat) (hk : k < 13) : (cv V M)[k]? = some (.int .u8 (V.getD k 0)) := by
  unfold cv hv
  simp [List.getElem?_append, hV, hk, List.getD]
theorem cv_mask (V M : List Int) (hV : V.length = 13) (hM : M.length = 13) (k : Nat) (hk : k < 13) : (cv V M)[13 + k]? = some (.int .u8 (M.getD k 0)) := by
  unfold cv hv
  simp [List.getElem?_append, hV, List.getElem?_eq_getElem (show k < M.length by omega), List.getD]
theorem cv_set_val (V M : List Int) (hV : V.length = 13) (k : Nat) (hk : k < 13) (x : Int) : (cv V M).setIfInBounds k (.int .u8 x) = cv (V.set k x) M := by
  unfold cv
  rw [hv_set, List.set_append_left _ _ (by omega)]
theorem cv_set_mask (V M : List Int) (hV : V.length = 13) (k : Nat) (x : Int) : (cv V M).setIfInBounds (13 + k) (.int .u8 x) = cv V (M.set k x) := by
  unfold cv
  rw [hv_set, List.set_append_right _ _ (by omega), hV, Nat.add_sub_cancel_left]

abbrev zeroC : Array Value := #[.int .u8 0, .int .u8 0, .int .u8 0, .int .u8 0, .int .u8 0, .int .u8 0, .int .u8 0, .int .u8 0, .int .u8 0, .int .u8 0, .int .u8 0, .int .u8 0, .int .u8 0, .int .u8 0, .int .u8 0, .int .u8 0, .int .u8 0, .int .u8 0, .int .u8 0, .int .u8 0, .int .u8 0, .int .u8 0, .int .u8 0, .int .u8 0, .int .u8 0, .int .u8 0]
/-- Thirteen noughts. -/
def Z : List Int := mk fun _ => false
theorem Z_eq : Z = [0, 0, 0, 0, 0, 0, 0, 0, 0, 0, 0, 0, 0] := by kernel_rfl
theorem zeroC_eq : zeroC = cv Z Z := by rw [Z_eq]; rfl
theorem zero26_eq : zero26 = hv Z := by rw [Z_eq]; rfl
theorem Z_byt : Byt Z := mk_byt _
theorem sizeC (V M : List Int) (hV : V.length = 13) (hM : M.length = 13) : (Try.prog.info? 25).map (·.size) = some (cv V M).size := by
  rw [cv_size V M hV hM]; kernel_rfl

theorem wl_loadC {ops : Array Oper} {rest : List Oper} {o : Oper} {a : Act} {w : World} {Q : Exit → Act → World → Prop} (hgd : o.guard = none) (x : Operand) (ho : o.op = .load 25 x)
    (g : Nat) (hx : a.eval x = .pointer (some ⟨g, 0, none⟩)) (V M : List Int) (hg : w.heap[g]? = some (.cells (cv V M) 25 (0, 0))) (hV : V.length = 13) (hM : M.length = 13)
    (h : wpList Try.prog ops Q rest (a.put o.dst (.agg (cv V M))) w) : wpList Try.prog ops Q (o :: rest) a w :=
  wpList_load_row hgd 25 x ho g hx 25 (cv V M) (0, 0) _ hg Try.underlying25 rfl (sizeC V M hV hM) h
theorem wl_storeC {ops : Array Oper} {rest : List Oper} {o : Oper} {a : Act} {w : World} {Q : Exit → Act → World → Prop} (hgd : o.guard = none) (x y : Operand) (ho : o.op = .store 25 x y)
    (g : Nat) (V M : List Int) (hx : a.eval x = .pointer (some ⟨g, 0, none⟩)) (hy : a.eval y = .agg (cv V M)) (old : Array Value) (hg : w.heap[g]? = some (.cells old 25 (0, 0))) (hold : old.size = 26) (hV : V.length = 13) (hM : M.length = 13)
    (w' : World) (hw' : w.setRow g (cv V M) = w')
    (h : wpList Try.prog ops Q rest (a.put o.dst undef) w') : wpList Try.prog ops Q (o :: rest) a w :=
  wpList_store_row hgd 25 x y ho g (cv V M) hx hy 25 old hg (sizeC V M hV hM) (by rw [cv_size V M hV hM, hold]) (cv_one V M) (by rw [hw']; exact h)
theorem retC {fn : Func} {R : Ending → World → Prop} {a : Act} {w : World} {p : Tmp} (hr : fn.results = #[.cell p 25]) (hd : a.defers = []) (g : Nat) (hp : a.tmps.getD p undef = .pointer (some ⟨g, 0, none⟩)) (V M : List Int) (hV : V.length = 13) (hM : M.length = 13)
    (hg : w.heap[g]? = some (.cells (cv V M) 25 (0, 0))) (h : R (.returned (.agg (cv V M))) w) : bodyPost Try.prog fn R .ret a w :=
  bodyPost_ret (v := .agg (cv V M)) (results_cell_row hr _ _ g 25 (cv V M) (0, 0) _ hp hg Try.underlying25 rfl (sizeC V M hV hM)) hd h

theorem part_val (V M : List Int) (hV : V.length = 13) (w : World) : (part 23 (cv V M) 0).run Try.prog w = .ok (.agg (hv V)) w := by
  have hz : ∀ w, (sizeOf 23).run Try.prog w = .ok 13 w := fun w => by kernel_rfl
  have ha : ∀ w, (isAgg 23).run Try.prog w = .ok true w := fun w => by kernel_rfl
  have e : (cv V M).extract 0 13 = hv V := by
    unfold cv hv
    simp [hV]
  simp [part, ha, hz, Sem.run_bind, e]
theorem part_mask (V M : List Int) (hV : V.length = 13) (hM : M.length = 13) (w : World) : (part 23 (cv V M) 13).run Try.prog w = .ok (.agg (hv M)) w := by
  have hz : ∀ w, (sizeOf 23).run Try.prog w = .ok 13 w := fun w => by kernel_rfl
  have ha : ∀ w, (isAgg 23).run Try.prog w = .ok true w := fun w => by kernel_rfl
  have e : (cv V M).extract 13 26 = hv M := by
    unfold cv hv
    simp [hV, List.take_of_length_le, hM]
  simp [part, ha, hz, Sem.run_bind, e]

theorem eqC (V M V' M' : List Int) (hV : V.length = 13) (hM : M.length = 13) (hV' : V'.length = 13) (hM' : M'.length = 13) (w : World) :
    (Op.equalIn 10000 25 (.agg (cv V M)) (.agg (cv V' M'))).run Try.prog w = .ok (V == V' && M == M') w := by
  have eH : ∀ A B : List Int, A.length = 13 → B.length = 13 → ∀ w, (Op.equalIn 9999 23 (.agg (hv A)) (.agg (hv B))).run Try.prog w = .ok (A == B) w := fun A B hA hB w => by
    have z5 : (sizeOf 5).run Try.prog w = .ok 1 w := by kernel_rfl
    rw [show (9999 : Nat) = 9998 + 1 from rfl, Op.equalIn]
    simp only [Sem.run_bind, run_underlying Try.underlying23, Result.andThen_ok, z5]
    simp only [Std.Legacy.Range.forIn_eq_forIn_range', Std.Legacy.Range.size, Nat.sub_zero, Nat.add_sub_cancel, Nat.div_one]
    rw [← all_eq A B hA hB]
    exact loopN 9997 A B hA hB w _ rfl rfl (List.range' 0 13) (fun i hi => by simp at hi; omega)
  rw [show (10000 : Nat) = 9999 + 1 from rfl, run_equalIn_struct w 9999 25 _ _ (by kernel_rfl) (by kernel_rfl)]
  rw [show (Try.prog.fieldsOf 25).toList = [{ name := "Value", type := 23, offset := 0, embedded := false, tag := "", pkgPath := "", byteOffset := 0 }, { name := "Mask", type := 23, offset := 13, embedded := false, tag := "", pkgPath := "", byteOffset := 13 }] from by kernel_rfl]
  simp only [Op.eqFields, ne_eq, String.reduceEq, not_false_eq_true, if_true, Sem.run_bind]
  simp only [part_val V M hV, part_val V' M' hV', Result.andThen_ok, eH V V' hV hV']
  cases hA : (V == V')
  · simp
  · simp only [Bool.not_true, Bool.false_eq_true, if_false, Sem.run_bind, part_mask V M hV hM, part_mask V' M' hV' hM', Result.andThen_ok, eH M M' hM hM']
    cases hB : (M == M') <;> simp
theorem egC (op : BinOp) (x y : Operand) (xs ys : Array Value) (w : World) : (eqGuard op 25 x y (.agg xs) (.agg ys)).run Try.prog w = .ok () w :=
  run_eqGuard_agg w op 25 x y xs ys (by kernel_rfl)
theorem egH (op : BinOp) (x y : Operand) (xs ys : Array Value) (w : World) : (eqGuard op 23 x y (.agg xs) (.agg ys)).run Try.prog w = .ok () w :=
  run_eqGuard_agg w op 23 x y xs ys (by kernel_rfl)

theorem qlC {W : World} {ops : Array Oper} {Q : Act → Prop} {rest : List Oper} {o : Oper} {a : Act} (hw : Region.wanted o (yielded ops a.tmps) = true) (x : Operand) (ho : o.op = .load 25 x)
    (g : Nat) (hx : a.eval x = .pointer (some ⟨g, 0, none⟩)) (V M : List Int) (hg : W.heap[g]? = some (.cells (cv V M) 25 (0, 0))) (hV : V.length = 13) (hM : M.length = 13)
    (h : wpQuiet Try.prog ops (fun w' => ∃ u : Later W, w' = u.world) Q rest (a.put o.dst (.agg (cv V M)))) : wpQuiet Try.prog ops (fun w' => ∃ u : Later W, w' = u.world) Q (o :: rest) a :=
  q_load_row hw 25 x ho g hx 25 (cv V M) (0, 0) _ (later_block hg) Try.underlying25 rfl (sizeC V M hV hM) h
end Go.Proofs.Ytjmbdoiibchokaa
namespace Go.Proofs.Ytjmbdoiibchokaa
open Go Go.RowKit
set_option maxRecDepth 20000

/-- The value of the right one. -/
def can (V M : List Int) : List Int := mk fun i => bt V i && bt M i

theorem bt_at (L : List Int) (i : Nat) : bt L i = yb (L.getD (i / 8) 0) (i % 8) := rfl

set_option maxHeartbeats 1000000 in
theorem canon_any (V M : List Int) (hV : Byt V) (hM : Byt M) (w : World) :
    Calls Try.prog 47 #[.agg (cv V M)] w fun e w' => e = .returned (.agg (cv (can V M) M)) ∧ Below w.heap.size w w' := by
  have hVl := hV.1
  have hMl := hM.1
  have HV : Hid (Byt V) := hV
  have HM : Hid (Byt M) := hM
  clear hV hM
  go_enter Try.func47, Try.ntmps47
  go_wp2
  go_loopw [4] (fun i wr => ∃ k : Nat, k ≤ 13 ∧ i = .int .i64 k ∧ ∃ U : List Int, Byt U ∧ (∀ j, j < 13 → U.getD j 0 = if j < k then bits .and .u8 (V.getD j 0) (M.getD j 0) else V.getD j 0) ∧ wr.heap[w.heap.size]? = some (.cells (cv U M) 25 (0, 0)) ∧ wr.heap[w.heap.size + 1]? = some (.cells zeroC 25 (0, 0)) ∧ Below w.heap.size w wr) (fun i _ => 13 - (intOf i).toNat)
  case atStart => exact ⟨0, Nat.zero_le _, rfl, V, HV.out, fun j _ => by simp, heap_past _ _ _ _ (heap_new _ _ _ rfl), heap_new _ _ _ (by simp), ((Below.refl _ _).alloc (Nat.le_refl _) _).alloc (by simp) _⟩
  case round =>
    obtain ⟨k, hk, rfl, U, hU, hUj, g0, g1, hb⟩ := hrel
    have hUl := hU.1
    by_cases hlt : k < 13
    · obtain ⟨x, hx, hxe⟩ : ∃ x, (cv U M)[k]? = some (.int .u8 x) ∧ x = U.getD k 0 := ⟨_, cv_val U M hUl k hlt, rfl⟩
      obtain ⟨y, hy, hye⟩ : ∃ y, (cv U M)[13 + k]? = some (.int .u8 y) ∧ y = M.getD k 0 := ⟨_, cv_mask U M hUl hMl k hlt, rfl⟩
      have hx0 : wr.cell? ⟨w.heap.size, k, none⟩ = some (.int .u8 x) := by rw [cell_of_row wr _ _ _ _ _ g0]; exact hx
      have hy0 : wr.cell? ⟨w.heap.size, 13 + k, none⟩ = some (.int .u8 y) := by rw [cell_of_row wr _ _ _ _ _ g0]; exact hy
      have hf0 : wr.frozen? ⟨w.heap.size, k, none⟩ = false := frozen_of_row wr _ _ _ _ g0
      have HU : Hid (Byt U) := hU
      have HUJ : Hid (∀ j, j < 13 → U.getD j 0 = if j < k then bits .and .u8 (V.getD j 0) (M.getD j 0) else V.getD j 0) := hUj
      have HX : Hid (x = U.getD k 0) := hxe
      have HY : Hid (y = M.getD k 0) := hye
      clear hU hUj hxe hye hx hy
      go_wp2_with fail
      refine wp_region_tail 11 (by kernel_rfl) (by kernel_rfl) ?_
      simp only [List.take_succ_cons, List.take_zero, List.drop_succ_cons, List.drop_zero]
      repeat go_big_quiet_step (fail)
      refine wpQuiet_nil ?_
      go_wp2_with fail
      go_roundw
      case rel =>
        refine ⟨k + 1, by omega, by go_num, U.set k (bits .and .u8 x y), byt_set U HU.out k _ hlt (bits_u8 _ _ _), fun j hj => ?_, ?_, ?_, ?_⟩
        · rw [getD_set _ _ _ _ (by omega)]
          by_cases e : k = j
          · subst e
            rw [if_pos rfl, if_pos (by omega), HX.out, HY.out, HUJ.out k hlt, if_neg (by omega)]
          · rw [if_neg e, HUJ.out j hj]
            by_cases h : j < k
            · rw [if_pos h, if_pos (by omega)]
            · rw [if_neg h, if_neg (by omega)]
        · rw [← cv_set_val U M hUl k hlt]; exact heap_setCell_same wr _ _ _ _ _ g0
        · exact (heap_setCell_other wr ⟨w.heap.size, k, none⟩ (w.heap.size + 1) _ (by simp)).trans g1
        · exact (hb.setCell (Nat.le_refl _) _).drew
      case measure => simp [intOf]; omega
    · obtain rfl : k = 13 := by omega
      have HU : Hid (Byt U) := hU
      have HUJ : Hid (∀ j, j < 13 → U.getD j 0 = if j < 13 then bits .and .u8 (V.getD j 0) (M.getD j 0) else V.getD j 0) := hUj
      clear hU hUj
      go_wp2_with (first
        | (refine wl_loadC rfl _ rfl w.heap.size rfl U M g0 hUl hMl ?_)
        | (refine wl_storeC rfl _ _ rfl (w.heap.size + 1) U M rfl rfl _ g1 rfl hUl hMl _ rfl ?_))
      have e : U = can V M := mk_eq U HU.out _ fun i hi => by
        rw [bt_at, HUJ.out _ (by omega), if_pos (by omega), and_yb _ _ (HV.out.2 _) (HM.out.2 _)]; rfl
      subst e
      refine retC (p := 2) rfl rfl (w.heap.size + 1) rfl (can V M) M hUl hMl (setRow_heap _ _ _ _ _ _ g1) ⟨rfl, ?_⟩
      exact below_setRow hb (by omega) _
end Go.Proofs.Ytjmbdoiibchokaa
namespace Go.Proofs.Ytjmbdoiibchokaa
open Go Go.RowKit
set_option maxRecDepth 20000

/-- Does a cube have a header? -/
def has (V M H : List Int) : Bool := (List.range 104).all fun i => !(bt M i) || (bt V i == bt H i)
end Go.Proofs.Ytjmbdoiibchokaa
namespace Go.Proofs.Ytjmbdoiibchokaa
open Go Go.RowKit
set_option maxRecDepth 20000

/-- The end of a function whose results are a cube in memory, and a plain one. -/
theorem retCe {fn : Func} {R : Ending → World → Prop} {a : Act} {w : World} {p u : Tmp} (hr : fn.results = #[.cell p 25, .tmp u]) (hd : a.defers = []) (g : Nat) (hp : a.tmps.getD p undef = .pointer (some ⟨g, 0, none⟩)) (V M : List Int) (hV : V.length = 13) (hM : M.length = 13)
    (hg : w.heap[g]? = some (.cells (cv V M) 25 (0, 0))) (v : Value) (hu : a.tmps.getD u undef = v) (h : R (.returned (.tuple #[.agg (cv V M), v])) w) : bodyPost Try.prog fn R .ret a w := by
  refine bodyPost_ret (v := .tuple #[.agg (cv V M), v]) ?_ hd h
  rw [results_cell_tmp hr, hp, hu]
  simp [asAddr, run_loadVar_row w g 25 25 (cv V M) (0, 0) _ hg Try.underlying25 rfl (sizeC V M hV hM)]

theorem can_byt (V M : List Int) : Byt (can V M) := mk_byt _
end Go.Proofs.Ytjmbdoiibchokaa
namespace Go.Proofs.Ytjmbdoiibchokaa
open Go Go.RowKit
set_option maxRecDepth 20000

theorem info13 : (Try.prog.info? 23).map (·.size) = some 13 := by kernel_rfl

/-- A header that lies within a block, from a place on. -/
theorem load_part (w : World) (g off : Nat) (cs : Array Value) (t : TypeId) (fr : Nat × Nat) (L : List Int) (hL : L.length = 13) (hg : w.heap[g]? = some (.cells cs t fr)) (hc : ∀ j, j < 13 → cs[off + j]? = some (.int .u8 (L.getD j 0))) :
    (loadVar 23 ⟨g, off, none⟩).run Try.prog w = .ok (.agg (hv L)) w := by
  have hl : (loadCells ⟨g, off, none⟩ ((L.map (Value.int .u8))).length).run Try.prog w = .ok (L.map (Value.int .u8)).toArray w :=
    run_loadCells_list (P := Try.prog) w ⟨g, off, none⟩ (L.map (Value.int .u8)) (fun j v hv => by
      have hadd : (⟨g, off, none⟩ : Addr).add j = ⟨g, off + j, none⟩ := by unfold Addr.add; split <;> simp_all
      have hj : j < 13 := by
        have := (List.getElem?_eq_some_iff.1 hv).1
        simpa [hL] using this
      rw [hadd, cell_of_row w g (off + j) cs t fr hg, hc j hj]
      rw [List.getElem?_map, List.getElem?_eq_getElem (by omega)] at hv
      simpa [List.getD, hL, hj] using hv)
  have hi := info13
  cases hq : Try.prog.info? 23 with
  | none => simp [hq] at hi
  | some i =>
    have hs : i.size = 13 := by simpa [hq] using hi
    have hagg : (isAgg 23).run Try.prog w = .ok true w := by
      unfold isAgg
      rw [Sem.run_bind, run_underlying Try.underlying23 w]
      rfl
    rw [List.length_map, hL] at hl
    simp [loadVar, Sem.run_bind, hagg, sizeOf, typeInfo, hq, hs, hl, hv]

theorem wl_loadPart {ops : Array Oper} {rest : List Oper} {o : Oper} {a : Act} {w : World} {Q : Exit → Act → World → Prop} (hw : Region.wanted o (yielded ops a.tmps) = true) (x : Operand) (ho : o.op = .load 23 x)
    (g off : Nat) (hx : a.eval x = .pointer (some ⟨g, off, none⟩)) (cs : Array Value) (t : TypeId) (fr : Nat × Nat) (L : List Int) (hL : L.length = 13) (hg : w.heap[g]? = some (.cells cs t fr)) (hc : ∀ j, j < 13 → cs[off + j]? = some (.int .u8 (L.getD j 0)))
    (h : wpList Try.prog ops Q rest (a.put o.dst (.agg (hv L))) w) : wpList Try.prog ops Q (o :: rest) a w := by
  refine wpList_step fun K hK => ?_
  rw [if_pos hw]
  unfold Oper.wp execOp
  simp only [ho, hx, Instr.loadAt, Instr.sureAddr, Sem.run_bind, Sem.run_pure, Result.andThen_ok, load_part w g off cs t fr L hL hg hc]
  exact hK _ _ h
/-- The mask of a cube in memory. -/
theorem wl_loadM {ops : Array Oper} {rest : List Oper} {o : Oper} {a : Act} {w : World} {Q : Exit → Act → World → Prop} (hw : Region.wanted o (yielded ops a.tmps) = true) (x : Operand) (ho : o.op = .load 23 x)
    (g : Nat) (hx : a.eval x = .pointer (some ⟨g, 13, none⟩)) (V M : List Int) (hg : w.heap[g]? = some (.cells (cv V M) 25 (0, 0))) (hV : V.length = 13) (hM : M.length = 13)
    (h : wpList Try.prog ops Q rest (a.put o.dst (.agg (hv M))) w) : wpList Try.prog ops Q (o :: rest) a w :=
  wl_loadPart hw x ho g 13 hx _ _ _ M hM hg (fun j hj => cv_mask V M hV hM j hj) h
theorem wl_loadV {ops : Array Oper} {rest : List Oper} {o : Oper} {a : Act} {w : World} {Q : Exit → Act → World → Prop} (hw : Region.wanted o (yielded ops a.tmps) = true) (x : Operand) (ho : o.op = .load 23 x)
    (g : Nat) (hx : a.eval x = .pointer (some ⟨g, 0, none⟩)) (V M : List Int) (hg : w.heap[g]? = some (.cells (cv V M) 25 (0, 0))) (hV : V.length = 13)
    (h : wpList Try.prog ops Q rest (a.put o.dst (.agg (hv V))) w) : wpList Try.prog ops Q (o :: rest) a w :=
  wl_loadPart hw x ho g 0 hx _ _ _ V hV hg (fun j hj => by rw [Nat.zero_add]; exact cv_val V M hV j hj) h

theorem store_part (w : World) (g off : Nat) (cs : Array Value) (t : TypeId) (L : List Int) (hL : L.length = 13) (hg : w.heap[g]? = some (.cells cs t (0, 0))) (hs : off + 13 ≤ cs.size) :
    (storeVar 23 ⟨g, off, none⟩ (.agg (hv L))).run Try.prog w = .ok () (w.setRow g (cs.toList.take off ++ L.map (Value.int .u8) ++ cs.toList.drop (off + 13)).toArray) := by
  have hst := run_storeCells_at Try.prog g off t (L.map (Value.int .u8)) 0 cs w hg (by simp [hL]; omega) (fun v hv => by
    obtain ⟨z, _, rfl⟩ := List.mem_map.1 hv; rfl)
  have hi := info13
  cases hq : Try.prog.info? 23 with
  | none => simp [hq] at hi
  | some i =>
    have hs' : i.size = 13 := by simpa [hq] using hi
    rw [Nat.add_zero, List.length_map, hL] at hst
    simp [storeVar, sizeOf, typeInfo, hq, Value.cells, hs', hv, hL, hst]

theorem wl_storePart {ops : Array Oper} {rest : List Oper} {o : Oper} {a : Act} {w : World} {Q : Exit → Act → World → Prop} (hgd : o.guard = none) (x y : Operand) (ho : o.op = .store 23 x y)
    (g off : Nat) (hx : a.eval x = .pointer (some ⟨g, off, none⟩)) (cs : Array Value) (t : TypeId) (L : List Int) (hy : a.eval y = .agg (hv L)) (hL : L.length = 13) (hg : w.heap[g]? = some (.cells cs t (0, 0))) (hs : off + 13 ≤ cs.size)
    (cs' : Array Value) (hcs' : (cs.toList.take off ++ L.map (Value.int .u8) ++ cs.toList.drop (off + 13)).toArray = cs')
    (h : wpList Try.prog ops Q rest (a.put o.dst undef) (w.setRow g cs')) : wpList Try.prog ops Q (o :: rest) a w :=
  wpList_plain hgd fun _ hK => by
    unfold Oper.wp execOp
    simp only [ho, hx, hy, Instr.storeAt, Instr.sureAddr, Sem.run_bind, Sem.run_pure, Result.andThen_ok, store_part w g off cs t L hL hg hs, hcs']
    exact hK _ _ h
theorem wl_storeM {ops : Array Oper} {rest : List Oper} {o : Oper} {a : Act} {w : World} {Q : Exit → Act → World → Prop} (hgd : o.guard = none) (x y : Operand) (ho : o.op = .store 23 x y)
    (g : Nat) (hx : a.eval x = .pointer (some ⟨g, 13, none⟩)) (V M L : List Int) (hy : a.eval y = .agg (hv L)) (hV : V.length = 13) (hM : M.length = 13) (hL : L.length = 13) (hg : w.heap[g]? = some (.cells (cv V M) 25 (0, 0)))
    (w' : World) (hw' : w.setRow g (cv V L) = w')
    (h : wpList Try.prog ops Q rest (a.put o.dst undef) w') : wpList Try.prog ops Q (o :: rest) a w :=
  wl_storePart hgd x y ho g 13 hx _ _ L hy hL hg (by rw [cv_size V M hV hM]; omega) (cv V L) (by unfold cv hv; simp [hV, hM]) (by rw [hw']; exact h)
theorem wl_storeV {ops : Array Oper} {rest : List Oper} {o : Oper} {a : Act} {w : World} {Q : Exit → Act → World → Prop} (hgd : o.guard = none) (x y : Operand) (ho : o.op = .store 23 x y)
    (g : Nat) (hx : a.eval x = .pointer (some ⟨g, 0, none⟩)) (V M L : List Int) (hy : a.eval y = .agg (hv L)) (hV : V.length = 13) (hM : M.length = 13) (hL : L.length = 13) (hg : w.heap[g]? = some (.cells (cv V M) 25 (0, 0)))
    (w' : World) (hw' : w.setRow g (cv L M) = w')
    (h : wpList Try.prog ops Q rest (a.put o.dst undef) w') : wpList Try.prog ops Q (o :: rest) a w :=
  wl_storePart hgd x y ho g 0 hx _ _ L hy hL hg (by rw [cv_size V M hV hM]; omega) (cv L M) (by unfold cv hv; simp [hV]) (by rw [hw']; exact h)

end Go.Proofs.Ytjmbdoiibchokaa
namespace Go.Proofs.Ytjmbdoiibchokaa
open Go Go.RowKit
set_option maxRecDepth 20000

/-- A header with a bit as it is told. -/
def setb (L : List Int) (i : Nat) (b : Bool) : List Int := mk fun k => if k = i then b else bt L k
theorem setb_byt (L : List Int) (i : Nat) (b : Bool) : Byt (setb L i b) := mk_byt _
theorem rbit_nat (L : List Int) (hL : Byt L) (i : Nat) (hi : i < 104) (w : World) :
    Calls Try.prog 49 #[.agg (hv L), .int .i64 (i : Int)] w fun e w' => e = .returned (.bool (bt L i)) ∧ Below w.heap.size w w' := by
  have := refBit_any L hL i w
  rwa [bitB_bt L i hi] at this
theorem rput_nat (L : List Int) (hL : Byt L) (i : Nat) (hi : i < 104) (b : Bool) (w : World) :
    Calls Try.prog 48 #[.agg (hv L), .int .i64 (i : Int), .bool b] w fun e w' => e = .returned (.agg (hv (setb L i b))) ∧ Below w.heap.size w w' := by
  have := refPut_any L hL i b w (by omega) (by omega)
  rwa [setB_mk L hL i b hi] at this
end Go.Proofs.Ytjmbdoiibchokaa
namespace Go.Proofs.Ytjmbdoiibchokaa
open Go Go.RowKit
set_option maxRecDepth 20000

end Go.Proofs.Ytjmbdoiibchokaa
namespace Go.Proofs.Ytjmbdoiibchokaa
open Go Go.RowKit
set_option maxRecDepth 20000

end Go.Proofs.Ytjmbdoiibchokaa
namespace Go.Proofs.Ytjmbdoiibchokaa
open Go Go.RowKit
set_option maxRecDepth 20000

end Go.Proofs.Ytjmbdoiibchokaa
namespace Go.Proofs.Ytjmbdoiibchokaa
open Go Go.RowKit
set_option maxRecDepth 20000

/-- How many bits of a cube are free. -/
def free (M : List Int) : Int := ((List.range 104).filter fun i => !(bt M i)).length

end Go.Proofs.Ytjmbdoiibchokaa
namespace Go.Proofs.Ytjmbdoiibchokaa
open Go Go.RowKit
set_option maxRecDepth 20000

/-- The letter of a bit. -/
def letter (V M : List Int) (i : Nat) : UInt8 := if bt M i then (if bt V i then 49 else 48) else 42
/-- Bytes as cells. -/
def bv (L : List UInt8) : Array Value := (L.map fun b => Value.int .u8 (b.toNat : Int)).toArray

end Go.Proofs.Ytjmbdoiibchokaa
namespace Go.Proofs.Ytjmbdoiibchokaa
open Go Go.RowKit
set_option maxRecDepth 20000

end Go.Proofs.Ytjmbdoiibchokaa
namespace Go.Proofs.Ytjmbdoiibchokaa
open Go Go.RowKit
set_option maxRecDepth 20000

end Go.Proofs.Ytjmbdoiibchokaa
namespace Go.Proofs.Ytjmbdoiibchokaa
open Go Go.RowKit
set_option maxRecDepth 20000

def m0 : List Int := [0, 0, 0, 0, 0, 0, 0, 0, 0, 0, 0, 0, 0]
theorem byt_of (L : List Int) (h1 : L.length = 13) (h2 : ∀ x ∈ L, 0 ≤ x ∧ x < 256) : Byt L := by
  refine ⟨h1, fun k => ?_⟩
  rcases Nat.lt_or_ge k 13 with h | h
  · rw [List.getD, List.getElem?_eq_getElem (by omega)]; exact h2 _ (List.getElem_mem _)
  · rw [List.getD, List.getElem?_eq_none (by omega)]; decide
theorem b0 : Byt m0 := byt_of _ rfl (by decide)

end Go.Proofs.Ytjmbdoiibchokaa
namespace Go.Proofs.Ytjmbdoiibchokaa
open Go.ChangeShapes Go.WideShapes Go.ChangeAt Go.WideMaps Go.WideElems Go.RowKit
set_option maxRecDepth 20000

theorem own : ownKnob Try.prog.godebug = none := by kernel_rfl
theorem laidOut : laidOutB Try.prog = true := by kernel_rfl

theorem bytes_of {H : Type} {enc : TypeId × Value → H} {W : World} {base : Nat} {spare : Nat → Bool} {held : Bool} {fuel : Nat} {cs : List Value} {x : DataW H × List MemPlace} (hl : cs.length = 13)
    (h : DataW.trod enc Try.prog W base spare held fuel 23 cs = some x) : ∃ L : List Int, cs = L.map (Value.int .u8) ∧ Byt L := by
  have c5 : Try.prog.cellsOf 5 = 1 := by kernel_rfl
  obtain ⟨xs, m, rfl, hx, hlen, hn, hel⟩ := DataW.trod_array Try.underlying23 h
  have each : ∀ i, i < 13 → ∃ z : Int, cs[i]? = some (.int .u8 z) ∧ 0 ≤ z ∧ z < 256 := fun i hi => by
    have h1 := hel i hi
    rw [List.getElem?_eq_getElem (show i < xs.length by omega), c5, Nat.mul_one] at h1
    obtain ⟨z, ez, _, wz⟩ := DataW.trod_int Try.underlying5 h1
    refine ⟨z, ?_, ?_⟩
    · have := congrArg (·[0]?) ez
      simpa [List.getElem?_take, List.getElem?_drop] using this
    · have := bounds_u8 wz
      omega
  refine ⟨cs.map intOf, ?_, by simp [hl], fun k => ?_⟩
  · apply List.ext_getElem?
    intro k
    rcases Nat.lt_or_ge k 13 with hk | hk
    · obtain ⟨z, hz, _⟩ := each k hk
      simp only [List.getElem?_map, hz]
      rfl
    · rw [List.getElem?_eq_none (by omega), List.getElem?_eq_none (by simpa [hl] using hk)]
  · rcases Nat.lt_or_ge k 13 with hk | hk
    · obtain ⟨z, hz, hb⟩ := each k hk
      rw [List.getD, List.getElem?_map, hz]
      exact hb
    · rw [List.getD, List.getElem?_eq_none (by simpa [hl] using hk)]
      decide

end Go.Proofs.Ytjmbdoiibchokaa
namespace Go.Proofs.Ytjmbdoiibchokaa
open Go
set_option maxRecDepth 20000

/-- A number's lowest bytes, so many, the highest first. -/
def beB : Nat → Nat → List UInt8
  | 0, _ => []
  | k + 1, n => beB k (n / 256) ++ [UInt8.ofNat (n % 256)]
theorem beB_len : ∀ k n, (beB k n).length = k
  | 0, _ => rfl
  | k + 1, n => by rw [beB, List.length_append, beB_len k]; rfl
/-- The next byte stands ahead of those that were found. -/
theorem beB_ahead : ∀ k n, beB (k + 1) n = UInt8.ofNat (n / 256 ^ k % 256) :: beB k n
  | 0, n => by simp [beB]
  | k + 1, n => by
    have e : beB (k + 1) n = beB k (n / 256) ++ [UInt8.ofNat (n % 256)] := rfl
    rw [beB, beB_ahead k (n / 256), List.cons_append, ← e, Nat.div_div_eq_div_mul, ← Nat.pow_succ']
/-- Bytes as a number. -/
def valB (L : List UInt8) : Nat := L.foldl (fun n b => n * 256 + b.toNat) 0
theorem valB_snoc (L : List UInt8) (b : UInt8) : valB (L ++ [b]) = valB L * 256 + b.toNat := by unfold valB; rw [List.foldl_append]; rfl
theorem valB_lt : ∀ (L : List UInt8), valB L < 256 ^ L.length := by
  have key : ∀ (L : List UInt8) (n m : Nat), n < m → L.foldl (fun n b => n * 256 + b.toNat) n < m * 256 ^ L.length := by
    intro L
    induction L with
    | nil => intro n m h; simpa using h
    | cons b L ih =>
      intro n m h
      rw [List.foldl_cons, List.length_cons, Nat.pow_succ', ← Nat.mul_assoc]
      refine ih _ _ ?_
      have := b.toNat_lt
      have : n * 256 + 256 ≤ m * 256 := by
        have := Nat.mul_le_mul_right 256 (show n + 1 ≤ m from h)
        rw [Nat.add_mul, Nat.one_mul] at this
        exact this
      omega
  intro L
  have := key L 0 1 (by decide)
  rwa [Nat.one_mul] at this
theorem valB_be : ∀ k n, valB (beB k n) = n % 256 ^ k
  | 0, n => by rw [Nat.pow_zero, Nat.mod_one]; rfl
  | k + 1, n => by
    rw [beB, valB_snoc, valB_be k, UInt8.toNat_ofNat', Nat.mod_mod_of_dvd _ (by decide)]
    have h256 : 256 ^ (k + 1) = 256 * 256 ^ k := Nat.pow_succ'
    rw [h256, Nat.mod_mul]
    have : n % 256 % 256 = n % 256 := Nat.mod_mod _ _
    omega
/-- And the other way round. -/
theorem be_valB : ∀ L : List UInt8, beB L.length (valB L) = L := by
  have key : ∀ (k : Nat) (L : List UInt8), L.length = k → beB k (valB L) = L := by
    intro k
    induction k with
    | zero => intro L h; rw [List.eq_nil_of_length_eq_zero h]; rfl
    | succ k ih =>
      intro L h
      rcases List.eq_nil_or_concat L with rfl | ⟨L', b, rfl⟩
      · simp at h
      · rw [List.concat_eq_append] at h ⊢
        have hl : L'.length = k := by simpa using h
        have hb := b.toNat_lt
        rw [valB_snoc, beB, show (valB L' * 256 + b.toNat) / 256 = valB L' by omega, ih L' hl, show (valB L' * 256 + b.toNat) % 256 = b.toNat by omega, UInt8.ofNat_toNat]
  exact fun L => key _ L rfl
/-- A frame. -/
def sealB (kind : Nat) (body : List UInt8) : List UInt8 := beB 2 body.length ++ (UInt8.ofNat kind :: body)
/-- The kind and the body of a frame. -/
def openB (b : List UInt8) : Option (Nat × List UInt8) := match b with
  | h :: l :: k :: body => if h.toNat * 256 + l.toNat = body.length then some (k.toNat, body) else none
  | _ => none
theorem seal_len (kind : Nat) (body : List UInt8) : (sealB kind body).length = body.length + 3 := by
  unfold sealB
  rw [List.length_append, beB_len]; simp; omega
theorem seal_form (kind : Nat) (body : List UInt8) (hb : body.length ≤ 65535) : ∃ h l : UInt8, sealB kind body = h :: l :: UInt8.ofNat kind :: body ∧ h.toNat * 256 + l.toNat = body.length := by
  refine ⟨UInt8.ofNat (body.length / 256 % 256), UInt8.ofNat (body.length % 256), ?_, ?_⟩
  · unfold sealB
    simp [beB]
  · rw [UInt8.toNat_ofNat', UInt8.toNat_ofNat']; omega
theorem open_seal (kind : Nat) (hk : kind < 256) (body : List UInt8) (hb : body.length ≤ 65535) : openB (sealB kind body) = some (kind, body) := by
  obtain ⟨h, l, e, hl⟩ := seal_form kind body hb
  rw [e]
  show (if h.toNat * 256 + l.toNat = body.length then some ((UInt8.ofNat kind).toNat, body) else none) = _
  rw [if_pos hl, UInt8.toNat_ofNat', Nat.mod_eq_of_lt hk]
/-- With a byte more, or less, it is none. -/
theorem open_more (kind : Nat) (body : List UInt8) (hb : body.length ≤ 65535) (m : UInt8) : openB (sealB kind body ++ [m]) = none := by
  obtain ⟨h, l, e, hl⟩ := seal_form kind body hb
  rw [e]
  show (if h.toNat * 256 + l.toNat = (body ++ [m]).length then some ((UInt8.ofNat kind).toNat, body ++ [m]) else none) = none
  rw [if_neg (by simp; omega)]
theorem open_less (kind : Nat) (body : List UInt8) (hb : body.length ≤ 65535) : openB ((sealB kind body).take ((sealB kind body).length - 1)) = none := by
  obtain ⟨h, l, e, hl⟩ := seal_form kind body hb
  rw [seal_len, e]
  cases body with
  | nil => rfl
  | cons c body =>
    rw [show (c :: body).length + 3 - 1 = body.length + 3 by simp]
    simp only [List.take_succ_cons]
    show (if h.toNat * 256 + l.toNat = ((c :: body).take body.length).length then _ else none) = none
    rw [if_neg (by simp at hl ⊢; omega)]
/-- What is opened is sealed to the same bytes. -/
theorem seal_open {b : List UInt8} {k : Nat} {body : List UInt8} (h : openB b = some (k, body)) : sealB k body = b ∧ k < 256 ∧ body.length ≤ 65535 := by
  unfold openB at h
  split at h
  · rename_i x l c d
    split at h
    · rename_i hl
      obtain ⟨rfl, rfl⟩ := Prod.mk.inj (Option.some.inj h)
      have hx := x.toNat_lt
      have hl2 := l.toNat_lt
      refine ⟨?_, c.toNat_lt, by omega⟩
      unfold sealB
      rw [show beB 2 d.length = [x, l] from ?_]
      · rw [UInt8.ofNat_toNat]; rfl
      · have := be_valB [x, l]
        rw [← this]
        congr 1
        show d.length = (0 * 256 + x.toNat) * 256 + l.toNat
        omega
    · cases h
  · cases h
end Go.Proofs.Ytjmbdoiibchokaa
namespace Go.Proofs.Ytjmbdoiibchokaa
open Go Go.RowKit
set_option maxRecDepth 20000

/-- Where a walk stands still. -/
def StopW (p : Prop) : Prop := p
theorem of_stopW {p : Prop} (h : StopW p) : p := h
theorem add_form (g off j : Nat) : (⟨g, off, none⟩ : Addr).add j = ⟨g, off + j, none⟩ := by unfold Addr.add; split <;> simp_all
/-- Bytes, wherever they lie. -/
def BSl (w : World) (v : Value) (L : List UInt8) : Prop :=
  ∃ (o : Option Addr) (cap : Nat), v = .slice o L.length cap ∧ L.length ≤ cap ∧ cap ≤ maxLen ∧ (o = none → cap = 0) ∧ ∀ (i : Nat) (hi : i < L.length), ∃ g off cur t fr, o = some ⟨g, off, none⟩ ∧ w.heap[g]? = some (.cells cur t fr) ∧ cur[off + i]? = some (.int .u8 (L[i].toNat : Int))
theorem BSl.of_heap {w w' : World} {v : Value} {L : List UInt8} (h : BSl w v L) (hb : ∀ g o, w.heap[g]? = some o → v.ownBlock = some g → w'.heap[g]? = some o) : BSl w' v L := by
  obtain ⟨o, cap, rfl, h1, h2, h3, h4⟩ := h
  refine ⟨o, cap, rfl, h1, h2, h3, fun i hi => ?_⟩
  obtain ⟨g, off, cur, t, fr, rfl, h5, h6⟩ := h4 i hi
  exact ⟨g, off, cur, t, fr, rfl, hb _ _ h5 rfl, h6⟩
theorem BSl.below {w w' : World} {v : Value} {L : List UInt8} (h : BSl w v L) (hb : Below w.heap.size w w') : BSl w' v L :=
  h.of_heap fun g _ hg _ => (hb.block g (Array.getElem?_eq_some_iff.1 hg).1).trans hg
theorem BSl.alloc {w : World} {v : Value} {L : List UInt8} (h : BSl w v L) (x : Obj) : BSl (w.alloc x) v L :=
  h.of_heap fun _ _ hg _ => heap_past _ _ _ _ hg
theorem BSl.grown {w w' : World} {v : Value} {L : List UInt8} (h : BSl w v L) {row : Option Nat} (hg : w.grownBy w' row) (hne : ∀ g, v.ownBlock = some g → row ≠ some g) : BSl w' v L :=
  h.of_heap fun g _ hq hv => (hg.block g (Array.getElem?_eq_some_iff.1 hq).1 fun e => hne g hv e.symm).trans hq
theorem BSl.slice {w : World} {v : Value} {L : List UInt8} (h : BSl w v L) : ∃ o cap, v = .slice o L.length cap ∧ L.length ≤ cap ∧ cap ≤ maxLen := by
  obtain ⟨o, cap, rfl, h1, h2, _⟩ := h
  exact ⟨o, cap, rfl, h1, h2⟩
theorem BSl.len {w : World} {o : Option Addr} {n cap : Nat} {L : List UInt8} (h : BSl w (.slice o n cap) L) : n = L.length := by
  obtain ⟨o', cap', h1, _⟩ := h
  simp only [Value.slice.injEq] at h1
  exact h1.2.1
theorem BSl.at {w : World} {o : Option Addr} {n cap : Nat} {L : List UInt8} (h : BSl w (.slice o n cap) L) (k : Nat) (hk : k < n) :
    ∃ g off, ∃ c : UInt8, o = some ⟨g, off, none⟩ ∧ w.cell? ⟨g, off + k, none⟩ = some (.int .u8 (c.toNat : Int)) ∧ L[k]? = some c := by
  obtain ⟨o', cap', h1, _, _, _, h3⟩ := h
  simp only [Value.slice.injEq] at h1
  obtain ⟨rfl, rfl, rfl⟩ := h1
  obtain ⟨g, off, cur, t, fr, h4, h5, h6⟩ := h3 k hk
  exact ⟨g, off, L[k], h4, by rw [cell_of_row _ _ _ _ _ _ h5]; exact h6, List.getElem?_eq_getElem hk⟩
/-- A part of it. -/
theorem BSl.part {w : World} {o : Option Addr} {n cap : Nat} {L : List UInt8} (h : BSl w (.slice o n cap) L) (g off p q cap' : Nat) (ho : o = some ⟨g, off, none⟩) (hq : p + q ≤ n) (hc1 : q ≤ cap') (hc2 : cap' ≤ maxLen) : BSl w (.slice (some ⟨g, off + p, none⟩) q cap') ((L.drop p).take q) := by
  have hn := h.len
  obtain ⟨o', cap0, h1, h2, h3, h4, h5⟩ := h
  simp only [Value.slice.injEq] at h1
  obtain ⟨rfl, rfl, rfl⟩ := h1
  have hl : ((L.drop p).take q).length = q := by simp; omega
  refine ⟨some ⟨g, off + p, none⟩, cap', by rw [hl], by omega, hc2, (fun e => by cases e), fun i hi => ?_⟩
  rw [hl] at hi
  obtain ⟨g', off', cur, t, fr, e, h6, h7⟩ := h5 (p + i) (by omega)
  rw [ho] at e
  simp only [Option.some.injEq, Addr.mk.injEq, and_true] at e
  obtain ⟨rfl, rfl⟩ := e
  refine ⟨g, off + p, cur, t, fr, rfl, h6, ?_⟩
  rw [Nat.add_assoc, h7]
  simp [List.getElem_take, List.getElem_drop]
theorem bsl_nil (w : World) : BSl w (.slice none 0 0) [] := ⟨none, 0, rfl, Nat.le_refl _, Nat.zero_le _, fun _ => rfl, fun i hi => absurd hi (by simp)⟩
theorem bsl_none (w : World) (a : Addr) (cap : Nat) (h : cap ≤ maxLen) : BSl w (.slice (some a) 0 cap) [] := ⟨some a, cap, rfl, Nat.zero_le _, h, (fun e => by cases e), fun i hi => absurd hi (by simp)⟩

/-- Bytes of one's own. -/
def BOwn (B : Nat) (w : World) (v : Value) (L : List UInt8) : Prop := w.ownsRow B 5 1 v L.length (Lib.byteCells L)
theorem bcells_at (L : List UInt8) (i : Nat) (hi : i < L.length) : (Lib.byteCells L)[i]? = some (.int .u8 (L[i].toNat : Int)) := by simp [Lib.byteCells, hi]
theorem BOwn.sl {B : Nat} {w : World} {v : Value} {L : List UInt8} (h : BOwn B w v L) : BSl w v L := by
  obtain ⟨h1, ⟨rfl, h2⟩ | ⟨g, cap, cur, rfl, hB, hcur, h5, h6, _, h4⟩⟩ := h
  · exact ⟨none, 0, by rw [h2], by omega, Nat.zero_le _, fun _ => rfl, fun i hi => by omega⟩
  · refine ⟨_, cap, rfl, h5, h6, (fun e => by cases e), fun i hi => ⟨g, 0, cur, _, _, rfl, hcur, ?_⟩⟩
    rw [← bcells_at L i hi, ← h4, Nat.mul_one, List.getElem?_take_of_lt hi, Nat.zero_add]
    simp
theorem BOwn.nil (B : Nat) (w : World) : BOwn B w (.slice none 0 0) [] := World.ownsRow_nil _ _ _ _
theorem BOwn.base {B B' : Nat} {w : World} {v : Value} {L : List UInt8} (h : BOwn B w v L) (hB : B' ≤ B) : BOwn B' w v L := by
  obtain ⟨h1, h2 | ⟨g', cap, cur, rfl, hB, h3⟩⟩ := h
  · exact ⟨h1, .inl h2⟩
  · exact ⟨h1, .inr ⟨g', cap, cur, rfl, by omega, h3⟩⟩
theorem BOwn.below {B : Nat} {w w' : World} {v : Value} {L : List UInt8} (h : BOwn B w v L) (hb : Below w.heap.size w w') : BOwn B w' v L := by
  obtain ⟨h1, h2 | ⟨g, cap, cur, rfl, hB, hcur, h3⟩⟩ := h
  · exact ⟨h1, .inl h2⟩
  · exact ⟨h1, .inr ⟨g, cap, cur, rfl, hB, (hb.block g (Array.getElem?_eq_some_iff.1 hcur).1).trans hcur, h3⟩⟩
theorem BOwn.ge {B : Nat} {w : World} {v : Value} {L : List UInt8} (h : BOwn B w v L) : ∀ g, v.ownBlock = some g → B ≤ g ∧ g < w.heap.size := fun g hg => World.ownsRow.lt h g hg

theorem infoB : ∃ i, Try.prog.info? 5 = some i ∧ i.zero = some (.int .u8 0) ∧ i.size = 1 ∧ i.bytes = 1 := by
  have h : (Try.prog.info? 5).map (fun i => (i.zero, i.size, i.bytes)) = some (some (.int .u8 0), 1, 1) := by kernel_rfl
  cases hi : Try.prog.info? 5 with
  | none => rw [hi] at h; simp at h
  | some i =>
    rw [hi] at h
    simp only [Option.map_some, Option.some.injEq, Prod.mk.injEq] at h
    exact ⟨i, rfl, h.1, h.2.1, h.2.2⟩
/-- Bytes are appended to bytes of one's own. -/
theorem wl_appW {ops : Array Oper} {rest : List Oper} {o : Oper} {a : Act} {w : World} {Q : Exit → Act → World → Prop} (hgd : o.guard = none) (s x : Operand) (ho : o.op = .call { callee := .builtin .append, args := #[s, x], argTypes := #[30, 30] })
    (B : Nat) (v u : Value) (L M : List UInt8) (hs : a.eval s = v) (hb : BOwn B w v L) (hx : a.eval x = u) (hM : BSl w u M) (hn : L.length + M.length ≤ 140737488355328) (hB : B ≤ w.heap.size)
    (h : ∀ v' w', BOwn B w' v' (L ++ M) → w.grownBy w' v.ownBlock → (v'.ownBlock = v.ownBlock ∨ v'.ownBlock = some w.heap.size) → wpList Try.prog ops Q rest (a.put o.dst v') w') : wpList Try.prog ops Q (o :: rest) a w := by
  obtain ⟨i, hi, hz, h1, h2⟩ := infoB
  obtain ⟨oa, cap, rfl, hc1, hc2, hc3, hc4⟩ := hM
  cases oa with
  | none =>
    have h0 : M = [] := by
      cases M with
      | nil => rfl
      | cons c M => obtain ⟨g, off, cur, t, fr, e, _⟩ := hc4 0 (by simp); cases e
    subst h0
    obtain rfl := hc3 rfl
    refine wpList_append_own_none hgd s x 30 ho B 5 i 1 Try.underlying30 hi v _ _ hs hb hx ?_
    refine h v w (by rw [List.append_nil]; exact hb) ⟨rfl, rfl, rfl, Nat.le_refl _, fun _ _ _ => rfl⟩ (.inl rfl)
  | some ad =>
    refine wpList_append_own_at _ hgd s x 30 ho B 5 i (.int .u8 0) 1 1 Try.underlying30 hi hz h1 h2 rfl (by decide) v _ _ hs hb ad M.length cap (Lib.byteCells M) hx (by rw [Lib.byteCells_length]; omega) ?_ ?_ (by unfold maxLen; omega) (by omega) hB ?_
    · intro j c hj
      have hjl : j < M.length := by
        have := (List.getElem?_eq_some_iff.1 hj).1
        rwa [Lib.byteCells_length] at this
      obtain ⟨g, off, cur, t, fr, e, h5, h6⟩ := hc4 j hjl
      obtain rfl := Option.some.inj e
      rw [add_form, cell_of_row _ _ _ _ _ _ h5, h6, ← hj, bcells_at M j hjl]
    · intro c hc
      unfold Lib.byteCells at hc
      obtain ⟨b, _, rfl⟩ := List.mem_map.1 hc
      rfl
    · intro v' w' hown hgr _ hat
      refine h v' w' ?_ hgr hat
      unfold BOwn
      rw [List.length_append, Lib.byteCells_append]
      exact hown

/-- Bytes as a string. -/
theorem run_strB (w : World) (v : Value) (L : List UInt8) (h : BSl w v L) : (convert 30 9 v).run Try.prog w = .ok (.string ⟨L.toArray⟩) w := by
  obtain ⟨o, cap, rfl, h1, h2, h3, h4⟩ := h
  cases L with
  | nil =>
    cases o with
    | none => exact run_convert_bytes_nil w 30 5 Try.underlying30 Try.underlying5 _ _ 9 Try.underlying9
    | some a =>
      rw [run_convert_bytes_string w 30 9 5 _ _ _ Try.underlying30 Try.underlying5 Try.underlying9]
      exact run_bytesToString w a 0 cap [] rfl
  | cons c L =>
    obtain ⟨g, off, _, _, _, rfl, _⟩ := h4 0 (by simp)
    have hx : ∀ i, i < (c :: L).length → w.cell? ⟨g, off + i, none⟩ = some (.int .u8 (((c :: L).map fun b => (b.toNat : Int)).getD i 0)) := fun i hi => by
      obtain ⟨g', off', cur, t, fr, e, h5, h6⟩ := h4 i hi
      simp only [Option.some.injEq, Addr.mk.injEq, and_true] at e
      obtain ⟨rfl, rfl⟩ := e
      rw [cell_of_row _ _ _ _ _ _ h5, h6, List.getD_eq_getElem?_getD, List.getElem?_map, List.getElem?_eq_getElem hi]
      rfl
    rw [run_convert_bytes_arg w 30 5 Try.underlying30 Try.underlying5 g off _ cap ((c :: L).map fun b => (b.toNat : Int)) (by simp) hx 9 Try.underlying9]
    congr 2
    unfold strOfNums
    congr 1
    rw [List.map_map]
    congr 1
    conv => rhs; rw [← List.map_id (c :: L)]
    refine List.map_congr_left fun b _ => ?_
    simp

set_option maxHeartbeats 2000000 in
theorem rsameB_any (v u : Value) (L M : List UInt8) (w : World) (hL : BSl w v L) (hM : BSl w u M) :
    Calls Try.prog 13 #[v, u] w fun e w' => e = .returned (.bool (L == M)) ∧ w' = w := by
  have h1 := run_strB w v L hL
  have h2 := run_strB w u M hM
  clear hL hM
  go_enter Try.func13, Try.ntmps13
  go_wp2_with fail
  go_ret
  exact ⟨rfl, rfl⟩
end Go.Proofs.Ytjmbdoiibchokaa
namespace Go.Proofs.Ytjmbdoiibchokaa
open Go.ChangeShapes Go.WideShapes Go.ChangeAt Go.WideMaps Go.WideElems Go.RowKit
set_option maxRecDepth 20000

/-- A slice of bytes that comes in, and what is read of it. -/
theorem open_bytes {H : Type} {enc : TypeId × Value → H} {W : World} {r : Reach} {b0 base : Nat} {spare : Nat → Bool} {held : Bool} {v : Value} {d : DataW H} {p : List MemPlace}
    (hok : Value.okWide Try.prog W r b0 30 v) (h : DataW.Trod enc Try.prog W base spare held 30 v d p) :
    ∃ L, BSl W v L ∧ (L = [] ∨ ∃ es sp, d = .slice es sp ∧ es.length = L.length) := by
  have c1 : Try.prog.cellsOf 5 = 1 := by kernel_rfl
  obtain ⟨fuel, hf⟩ := h
  have hv1 : v.cells.toList = [v] := by
    simp only [Value.okWide, Cell.okWide, Cell.ok, Try.underlying30] at hok
    cases v <;> simp_all [Value.cells]
  rw [hv1] at hf
  rcases Deep.open_slice1 Try.underlying30 c1 hf with ⟨h0, _⟩ | ⟨a, len, cap, m, n, V, D, Pl, h0, hb, hl, hm, hmm, hx, hc⟩
  · obtain rfl : v = .slice none 0 0 := by simpa using h0
    exact ⟨[], bsl_nil W, .inl rfl⟩
  · obtain rfl : v = .slice (some a) len cap := by simpa using h0
    have hlm : len ≤ m := by rw [hmm]; split <;> omega
    have each : ∀ i, i < len → ∃ c : UInt8, W.cell? (a.add i) = some (.int .u8 (c.toNat : Int)) := fun i hi => by
      obtain ⟨h1, h2⟩ := hc i (by omega)
      obtain ⟨z, h3, _, h4⟩ := DataW.trod_int Try.underlying5 h2
      have hz := bounds_u8 h4
      refine ⟨UInt8.ofNat z.toNat, ?_⟩
      rw [h1, show V i = .int .u8 z by simpa using h3, UInt8.toNat_ofNat']
      congr 2
      omega
    obtain ⟨f, hf⟩ := Deep.choose_lt each
    have hll : ((List.range len).map f).length = len := by simp
    refine ⟨(List.range len).map f, ⟨some a, cap, by rw [hll], by rw [hll]; exact hl, hm, (fun e => by cases e), fun i hi => ?_⟩, .inr ⟨_, _, congrArg Prod.fst hx, by simp⟩⟩
    rw [hll] at hi
    have h1 := hf i hi
    have h0' := hf 0 (by omega)
    obtain ⟨g, off, spt⟩ := a
    have hsp : spt = none := by
      unfold World.cell? at h0'
      split at h0'
      · split at h0'
        · cases h0'
        · rename_i hs
          simpa [Addr.add] using hs
      · cases h0'
    subst hsp
    rw [add_form] at h1
    unfold World.cell? at h1
    split at h1
    · rename_i cur t fr hq
      simp only at h1
      refine ⟨g, off, cur, t, fr, rfl, hq, ?_⟩
      simpa using h1
    · cases h1
/-- How long it can be. -/
theorem bytes_reach {H : Type} {ts : List TypeId} {ds : List (DataW H)} (h : (DataW.weightsEach Try.prog ts ds).all (· ≤ reachBytes) = true) {j : Nat} {d : DataW H} {L : List UInt8} (ht : ts[j]? = some 30) (hd : ds[j]? = some d)
    (hL : L = [] ∨ ∃ es sp, d = .slice es sp ∧ es.length = L.length) : L.length ≤ 140737488351232 := by
  rcases hL with rfl | ⟨es, sp, rfl, h1⟩
  · simp
  · have := sized_slice h ht hd Try.underlying30
    rw [show Try.prog.bytesOf 5 = 1 by kernel_rfl, Nat.mul_one] at this
    have e : reachBytes = 140737488351232 := rfl
    omega
end Go.Proofs.Ytjmbdoiibchokaa
