import Derived.Test.YtdibjhlckjjlfaaJ5
import Derived.Test.YtdibjhlckjjlfaaJ4
import Derived.Test.YtdibjhlckjjlfaaJ9
namespace Go.Proofs.Ytdibjhlckjjlfaa
open Go Go.Lib Go.RowKit
set_option maxRecDepth 20000

/-! Builds of structs and of a slice of two of them. -/
theorem fold_size15 (off : Nat) (xs cs : Array Value) : (xs.zipIdx.foldl (fun cs (x : Value × Nat) => cs.setIfInBounds (off + x.2) x.1) cs).size = cs.size := by
  rw [← Array.foldl_toList]
  generalize xs.zipIdx.toList = l
  induction l generalizing cs with
  | nil => rfl
  | cons y ys ih => rw [List.foldl_cons, ih]; simp
theorem fold_pair15 (a b cells : Array Value) (h : a.size + b.size = cells.size) : (b.zipIdx.foldl (fun cs (x : Value × Nat) => cs.setIfInBounds (a.size + x.2) x.1) (a.zipIdx.foldl (fun cs (x : Value × Nat) => cs.setIfInBounds (0 + x.2) x.1) cells)) = a ++ b := by
  have e : ∀ (off : Nat) (xs cs : Array Value), xs.zipIdx.foldl (fun cs (x : Value × Nat) => cs.setIfInBounds (off + x.2) x.1) cs = (xs.toList.zipIdx 0).foldl (fun cs (x : Value × Nat) => cs.setIfInBounds (off + x.2) x.1) cs := fun off xs cs => by
    rw [← Array.foldl_toList]; simp
  have hsz : ∀ (off : Nat) (xs : List (Value × Nat)) (cs : Array Value), (xs.foldl (fun cs (x : Value × Nat) => cs.setIfInBounds (off + x.2) x.1) cs).size = cs.size := fun off xs => by
    induction xs with
    | nil => intro cs; rfl
    | cons y ys ih => intro cs; rw [List.foldl_cons, ih]; simp
  rw [e, e]
  apply Array.ext_getElem?
  intro k
  rw [gfold_get a.size b.toList 0 _ k (by rw [hsz]; simp; omega), gfold_get 0 a.toList 0 _ k (by simp; omega)]
  simp only [Nat.zero_add, Nat.add_zero, Array.length_toList, Nat.zero_le, true_and, Nat.sub_zero, Array.getElem?_toList]
  rw [Array.getElem?_append]
  by_cases h1 : k < a.size
  · rw [if_neg (by omega), if_pos h1, if_pos h1]
  · rw [if_neg h1, if_neg h1]
    by_cases h2 : k < a.size + b.size
    · rw [if_pos (by omega)]
    · rw [if_neg (by omega), Array.getElem?_eq_none (by omega), Array.getElem?_eq_none (by omega)]
set_option maxRecDepth 20000 in
/-- A slice of two elements. -/
theorem wl_build2E15 {E : El} (H : E.Ok) {ops : Array Oper} {rest : List Oper} {o : Oper} {a : Act} {w : World} {Q : Exit → Act → World → Prop} (hg : o.guard = none) (x y : Operand) (ho : o.op = .buildSlice E.slice 2 #[(0, x), (1, y)]) (cs ds : Array Value) (hcs : cs.size = E.size) (hds : ds.size = E.size) (hx : a.eval x = .agg cs) (hy : a.eval y = .agg ds)
    (h : wpList Try.prog ops Q rest (a.put o.dst (.slice (some ⟨w.heap.size, 0, none⟩) 2 2)) (w.alloc (.cells (cs ++ ds) E.elem))) : wpList Try.prog ops Q (o :: rest) a w := by
  obtain ⟨ie, hie, hz, hs, _⟩ := H.info
  refine wpList_buildSlice hg E.slice E.elem 2 _ ho (cs ++ ds) ie (.agg E.zero) H.hs hie hz (by rw [hs]; have := H.hn; omega) (by rw [hs]; have := H.hp; omega) ?_ h
  simp only [List.map_toArray, List.map_cons, List.map_nil, hx, hy, Instr.fill, hs, Nat.zero_mul, Nat.one_mul, Value.cells, hcs, hds]
  rw [if_neg (by simp; omega), if_neg (by rw [fold_size15]; simp; omega)]
  congr 1
  have := fold_pair15 cs ds (Array.map (fun x => E.zero[x % E.zero.size]!) (Array.range (2 * E.size))) (by rw [hcs, hds]; simp; omega)
  rw [hcs] at this
  exact this
theorem run_build15 {o : Oper} {t : Nat} {ps : Array (Nat × Operand)} (ho : o.op = .build t ps) (a : Act) (W : World) (qs : Array (Nat × Value)) (hq : (ps.map fun (i, x) => (i, a.eval x)) = qs) (v : Value) (h : (Instr.build t qs).run Try.prog W = .ok v W) : (execOp a.eval o).run Try.prog W = .ok (.value v) W := by
  unfold execOp
  simp only [ho, Sem.run_bind, hq, h, Result.andThen_ok, Sem.run_pure]
set_option maxRecDepth 100000 in
theorem build_r015 (V M : List Int) (hV : V.length = 13) (hM : M.length = 13) (W : World) : (Instr.build 37 #[(1, .agg (cv V M)), (2, .int .i64 1)]).run Try.prog W = .ok (.agg (ruleV ⟨0, (V, M), 1⟩)) W := by
  obtain ⟨a0, a1, a2, a3, a4, a5, a6, a7, a8, a9, a10, a11, a12, rfl⟩ := list13 hV
  obtain ⟨b0, b1, b2, b3, b4, b5, b6, b7, b8, b9, b10, b11, b12, rfl⟩ := list13 hM
  kernel_rfl
set_option maxRecDepth 100000 in
theorem build_r115 (W : World) : (Instr.build 37 #[(0, .int .i64 1), (2, .int .i64 2)]).run Try.prog W = .ok (.agg (ruleV ⟨1, (Z, Z), 2⟩)) W := by
  kernel_rfl
theorem wl_buildAny15 {ops : Array Oper} {rest : List Oper} {o : Oper} {a : Act} {w : World} {Q : Exit → Act → World → Prop} (hgd : o.guard = none) (t : TypeId) (ps : Array (Nat × Operand)) (ho : o.op = .build t ps) (qs : Array (Nat × Value)) (hq : (ps.map fun (i, x) => (i, a.eval x)) = qs) (v : Value)
    (hr : (Instr.build t qs).run Try.prog w = .ok v w) (h : wpList Try.prog ops Q rest (a.put o.dst v) w) : wpList Try.prog ops Q (o :: rest) a w := by
  refine wpList_plain hgd fun _ hK => ?_
  unfold Oper.wp
  rw [run_build15 ho a w qs hq v hr]
  exact hK _ _ h
theorem RulesAt.own15 {B : Nat} {w : World} {v : Value} {T : List RuleM} (hT : ∀ r ∈ T, okR8 r) (h : w.ownsRow B 37 28 v T.length (gcells ruleV T)) : RulesAt w v T := gsl_of (E := RuleE) h fun c hc => ruleV_size (hT c hc)
end Go.Proofs.Ytdibjhlckjjlfaa
namespace Go.Proofs.Ytdibjhlckjjlfaa
open Go Go.RowKit
set_option maxRecDepth 20000

/-! law15.awake. -/
def m255 : List Int := [255, 0, 0, 0, 0, 0, 0, 0, 0, 0, 0, 0, 0]
theorem b255 : Byt m255 := byt_of _ rfl (by decide)
def exA0 : RuleM := ⟨0, (m128, m128), 1⟩
def exA1 : RuleM := ⟨1, (Z, Z), 2⟩
theorem exA_ok : ∀ r ∈ [exA0, exA1], okR8 r := fun r hr => by
  simp at hr
  rcases hr with rfl | rfl
  · exact ⟨b128, b128⟩
  · exact ⟨Z_byt, Z_byt⟩
set_option maxRecDepth 100000 in
theorem exA_first0 : FirstA [exA0, exA1] m0 1 exA1 := ⟨rfl, by kernel_rfl, fun x hx => by
  obtain rfl : x = (m128, m128) := by simpa [cubsA, exA0] using hx
  kernel_rfl⟩
set_option maxRecDepth 100000 in
theorem exA_first1 : FirstA [exA0, exA1] m255 0 exA0 := ⟨rfl, by kernel_rfl, fun x hx => by simp [cubsA] at hx⟩
set_option maxRecDepth 100000 in
theorem exA_about0 : aboutA (cubsA ([exA0, exA1].take 1)) exA1.cube m0 = (m0, m128) := by kernel_rfl
set_option maxRecDepth 100000 in
theorem exA_about1 : aboutA (cubsA ([exA0, exA1].take 0)) exA0.cube m255 = (m128, m128) := by kernel_rfl
set_option maxRecDepth 100000 in
theorem build_h128 (W : World) : (Instr.build 28 #[(0, .int .u8 128)]).run Try.prog W = .ok (.agg (hv m128)) W := by kernel_rfl
set_option maxRecDepth 100000 in
theorem build_h255 (W : World) : (Instr.build 28 #[(0, .int .u8 255)]).run Try.prog W = .ok (.agg (hv m255)) W := by kernel_rfl
set_option maxRecDepth 100000 in
theorem build_one (W : World) : (Instr.build 30 #[(0, .agg (hv m128)), (1, .agg (hv m128))]).run Try.prog W = .ok (.agg (cv m128 m128)) W := by kernel_rfl
set_option maxRecDepth 100000 in
theorem build_zero (W : World) : (Instr.build 30 #[(1, .agg (hv m128))]).run Try.prog W = .ok (.agg (cv m0 m128)) W := by kernel_rfl
set_option maxHeartbeats 8000000 in
theorem awake15_any (w : World) : Calls Try.prog 8 #[] w fun e w' => e = .returned (.bool true) ∧ Below w.heap.size w w' := by
  have AB0 : Hid (∀ vl W, RulesAt W vl [exA0, exA1] → Calls Try.prog 11 #[vl, .agg (hv m0)] W fun e w' => e = .returned (.tuple #[.agg (cv m0 m128), .int .i64 2, .bool true]) ∧ Below W.heap.size W w') := fun vl W h => by
    have := about_yes [exA0, exA1] exA_ok (by simp) vl m0 b0 1 exA1 exA_first0 W h
    rw [exA_about0] at this
    exact this
  have AB1 : Hid (∀ vl W, RulesAt W vl [exA0, exA1] → Calls Try.prog 11 #[vl, .agg (hv m255)] W fun e w' => e = .returned (.tuple #[.agg (cv m128 m128), .int .i64 1, .bool true]) ∧ Below W.heap.size W w') := fun vl W h => by
    have := about_yes [exA0, exA1] exA_ok (by simp) vl m255 b255 0 exA0 exA_first1 W h
    rw [exA_about1] at this
    exact this
  have l1 : m128.length = 13 := rfl
  have l0 : m0.length = 13 := rfl
  have bh1 := build_h128
  have bh2 := build_h255
  have bo := build_one
  have bz := build_zero
  have br0 : ∀ W, (Instr.build 37 #[(1, .agg (cv m128 m128)), (2, .int .i64 1)]).run Try.prog W = .ok (.agg (ruleV exA0)) W := build_r015 m128 m128 rfl rfl
  have br1 : ∀ W, (Instr.build 37 #[(0, .int .i64 1), (2, .int .i64 2)]).run Try.prog W = .ok (.agg (ruleV exA1)) W := build_r115
  have hok0 : okR8 exA0 := exA_ok _ (by simp)
  have hok1 : okR8 exA1 := exA_ok _ (by simp)
  have hs0 := ruleV_size hok0
  have hs1 := ruleV_size hok1
  have eq0 : ∀ w, (Op.equalIn 10000 30 (.agg (cv m0 m128)) (.agg (cv m0 m128))).run Try.prog w = .ok true w := fun w => by rw [eqC _ _ _ _ l0 l1 l0 l1]; simp
  have eq1 : ∀ w, (Op.equalIn 10000 30 (.agg (cv m128 m128)) (.agg (cv m128 m128))).run Try.prog w = .ok true w := fun w => by rw [eqC _ _ _ _ l1 l1 l1 l1]; simp
  have eg : ∀ op x y (xs ys : Array Value) w, (eqGuard op 30 x y (.agg xs) (.agg ys)).run Try.prog w = .ok () w := egC
  have hz0 : hv m0 = #[.int .u8 0, .int .u8 0, .int .u8 0, .int .u8 0, .int .u8 0, .int .u8 0, .int .u8 0, .int .u8 0, .int .u8 0, .int .u8 0, .int .u8 0, .int .u8 0, .int .u8 0] := by kernel_rfl
  rw [hz0] at AB0
  clear hz0
  generalize m0 = a0 at *
  generalize m128 = a1 at *
  generalize m255 = a2 at *
  go_enter Try.func8, Try.ntmps8
  obtain ⟨w3, hw3⟩ : ∃ w3, w3 = (w.alloc (.cells (cv a1 a1) 30)).alloc (.cells (cv a0 a1) 30) := ⟨_, rfl⟩
  have Y0 : Hid (w3.heap[w.heap.size]? = some (.cells (cv a1 a1) 30 (0, 0))) := by show _ = _; rw [hw3]; exact heap_past _ _ _ _ (heap_new _ _ _ rfl)
  have Y1 : Hid (w3.heap[w.heap.size + 1]? = some (.cells (cv a0 a1) 30 (0, 0))) := by show _ = _; rw [hw3]; exact heap_new _ _ _ (by simp)
  have B3 : Hid (Below w.heap.size w w3) := by show Below _ _ _; rw [hw3]; exact ((Below.refl _ _).alloc (Nat.le_refl _) _).alloc (by simp) _
  go_wp2_with (first
    | (refine wl_buildAny15 rfl _ _ rfl #[(0, .int .u8 128)] (by simp only [List.map_toArray, List.map_cons, List.map_nil]; rfl) (.agg (hv a1)) (bh1 _) ?_)
    | (refine wl_buildAny15 rfl _ _ rfl #[(0, .agg (hv a1)), (1, .agg (hv a1))] (by simp only [List.map_toArray, List.map_cons, List.map_nil]; rfl) (.agg (cv a1 a1)) (bo _) ?_)
    | (refine wl_buildAny15 rfl _ _ rfl #[(1, .agg (hv a1))] (by simp only [List.map_toArray, List.map_cons, List.map_nil]; rfl) (.agg (cv a0 a1)) (bz _) ?_)
    | (refine wl_storeC rfl _ _ rfl w.heap.size a1 a1 rfl rfl _ (heap_new _ _ _ rfl) rfl l1 l1 _ (setRow_new _ _ _ _ _ rfl) ?_)
    | (refine wl_storeC rfl _ _ rfl (w.heap.size + 1) a0 a1 rfl rfl _ (heap_new _ _ _ (by simp)) rfl l0 l1 _ (setRow_new _ _ _ _ _ (by simp)) ?_; refine of_stopT ?_))
  unfold StopT
  rw [← hw3]
  clear hw3
  obtain ⟨w4, hw4⟩ : ∃ w4, w4 = w3.alloc (.cells (ruleV exA0 ++ ruleV exA1) RuleE.elem) := ⟨_, rfl⟩
  have hb4 : Below w3.heap.size w3 w4 := by rw [hw4]; exact (Below.refl _ _).alloc (Nat.le_refl _) _
  have B4 : Hid (Below w.heap.size w w4) := B3.out.trans (hb4.mono B3.out.size)
  have X0 : Hid (w4.heap[w.heap.size]? = some (.cells (cv a1 a1) 30 (0, 0))) := (hb4.block _ (Array.getElem?_eq_some_iff.1 Y0.out).1).trans Y0.out
  have X1 : Hid (w4.heap[w.heap.size + 1]? = some (.cells (cv a0 a1) 30 (0, 0))) := (hb4.block _ (Array.getElem?_eq_some_iff.1 Y1.out).1).trans Y1.out
  have R4 : Hid (RulesAt w4 (.slice (some ⟨w3.heap.size, 0, none⟩) 2 2) [exA0, exA1]) := by
    refine RulesAt.own15 (B := w.heap.size) (fun r hr => by simp at hr; rcases hr with rfl | rfl; exact hok0; exact hok1) ?_
    rw [hw4]
    have h := World.ownsRow_lit (base := w.heap.size) (e := RuleE.elem) (size := 28) w3 (ruleV exA0 ++ ruleV exA1) 2 B3.out.size (by unfold maxLen; omega) (by simp [hs0, hs1])
    have e : gcells ruleV [exA0, exA1] = (ruleV exA0 ++ ruleV exA1).toList := by unfold gcells; simp
    rw [e]
    exact h
  clear hb4
  go_wp2_with (first
    | (refine wl_loadCw rfl _ rfl w.heap.size 0 rfl _ _ _ a1 a1 l1 l1 Y0.out (own_cells _ _) ?_)
    | (refine wl_buildAny15 rfl _ _ rfl #[(1, .agg (cv a1 a1)), (2, .int .i64 1)] (by simp only [List.map_toArray, List.map_cons, List.map_nil]; rfl) (.agg (ruleV exA0)) (br0 _) ?_)
    | (refine wl_buildAny15 rfl _ _ rfl #[(0, .int .i64 1), (2, .int .i64 2)] (by simp only [List.map_toArray, List.map_cons, List.map_nil]; rfl) (.agg (ruleV exA1)) (br1 _) ?_)
    | (refine wl_build2E15 (E := RuleE) RuleOk rfl _ _ rfl (ruleV exA0) (ruleV exA1) hs0 hs1 rfl rfl ?_; refine of_stopT ?_))
  unfold StopT
  rw [← hw4]
  clear hw4 Y0 Y1 B3
  obtain ⟨vl, hvl⟩ : ∃ vl, vl = Value.slice (some ⟨w3.heap.size, 0, none⟩) 2 2 := ⟨_, rfl⟩
  rw [← hvl] at R4 ⊢
  clear hvl
  go_wp2_with fail
  refine (AB0.out _ _ R4.out).mono ?_
  rintro e w5 ⟨rfl, hb5⟩
  have R5 : Hid (RulesAt w5 vl [exA0, exA1]) := GSl.below R4.out hb5
  have hb6 := B4.out.trans (hb5.mono B4.out.size)
  have B5 : Hid (Below w.heap.size w (w5.alloc (.cells (cv a0 a1) 30))) := hb6.alloc hb6.size _
  have R6 : Hid (RulesAt (w5.alloc (.cells (cv a0 a1) 30)) vl [exA0, exA1]) := GSl.below R5.out ((Below.refl _ _).alloc (Nat.le_refl _) _)
  have V0 : Hid ((w5.alloc (.cells (cv a0 a1) 30)).heap[w.heap.size]? = some (.cells (cv a1 a1) 30 (0, 0))) := heap_past _ _ _ _ ((hb5.block _ (Array.getElem?_eq_some_iff.1 X0.out).1).trans X0.out)
  have V1 : Hid ((w5.alloc (.cells (cv a0 a1) 30)).heap[w.heap.size + 1]? = some (.cells (cv a0 a1) 30 (0, 0))) := heap_past _ _ _ _ ((hb5.block _ (Array.getElem?_eq_some_iff.1 X1.out).1).trans X1.out)
  have V2 : Hid ((w5.alloc (.cells (cv a0 a1) 30)).heap[w5.heap.size]? = some (.cells (cv a0 a1) 30 (0, 0))) := heap_new _ _ _ rfl
  clear hb5 hb6 R4 R5 X0 X1 B4
  go_wp2_with (first
    | (refine wl_storeC rfl _ _ rfl w5.heap.size a0 a1 rfl rfl _ (heap_new _ _ _ rfl) rfl l0 l1 _ (setRow_new _ _ _ _ _ rfl) ?_; refine of_stopT ?_))
  unfold StopT
  go_wp2_with (first
    | (refine wl_buildAny15 rfl _ _ rfl #[(0, .int .u8 255)] (by simp only [List.map_toArray, List.map_cons, List.map_nil]; rfl) (.agg (hv a2)) (bh2 _) ?_))
  refine (AB1.out _ _ R6.out).mono ?_
  rintro e w6 ⟨rfl, hb6⟩
  have hb7 := B5.out.trans (hb6.mono B5.out.size)
  have B7 : Hid (Below w.heap.size w (w6.alloc (.cells (cv a1 a1) 30))) := hb7.alloc hb7.size _
  have T0 : Hid ((w6.alloc (.cells (cv a1 a1) 30)).heap[w.heap.size]? = some (.cells (cv a1 a1) 30 (0, 0))) := heap_past _ _ _ _ ((hb6.block _ (Array.getElem?_eq_some_iff.1 V0.out).1).trans V0.out)
  have T1 : Hid ((w6.alloc (.cells (cv a1 a1) 30)).heap[w.heap.size + 1]? = some (.cells (cv a0 a1) 30 (0, 0))) := heap_past _ _ _ _ ((hb6.block _ (Array.getElem?_eq_some_iff.1 V1.out).1).trans V1.out)
  have T2 : Hid ((w6.alloc (.cells (cv a1 a1) 30)).heap[w5.heap.size]? = some (.cells (cv a0 a1) 30 (0, 0))) := heap_past _ _ _ _ ((hb6.block _ (Array.getElem?_eq_some_iff.1 V2.out).1).trans V2.out)
  have T3 : Hid ((w6.alloc (.cells (cv a1 a1) 30)).heap[w6.heap.size]? = some (.cells (cv a1 a1) 30 (0, 0))) := heap_new _ _ _ rfl
  clear hb6 hb7 V0 V1 V2 R6 B5
  go_wp2_with (first
    | (refine wl_storeC rfl _ _ rfl w6.heap.size a1 a1 rfl rfl _ (heap_new _ _ _ rfl) rfl l1 l1 _ (setRow_new _ _ _ _ _ rfl) ?_)
    | (refine wl_loadCw rfl _ rfl w6.heap.size 0 rfl _ _ _ a1 a1 l1 l1 T3.out (own_cells _ _) ?_)
    | (refine wl_loadCw rfl _ rfl w5.heap.size 0 rfl _ _ _ a0 a1 l0 l1 T2.out (own_cells _ _) ?_)
    | (refine wl_loadCw rfl _ rfl (w.heap.size + 1) 0 rfl _ _ _ a0 a1 l0 l1 T1.out (own_cells _ _) ?_)
    | (refine wl_loadCw rfl _ rfl w.heap.size 0 rfl _ _ _ a1 a1 l1 l1 T0.out (own_cells _ _) ?_))
  go_ret
  exact ⟨rfl, B7.out⟩
end Go.Proofs.Ytdibjhlckjjlfaa
