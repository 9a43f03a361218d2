import Derived.Test.YtjlghkiplapodaaJ11
import Derived.Test.YtjlghkiplapodaaJ8
namespace Go.Proofs.Ytjlghkiplapodaa
open Go Go.RowKit

theorem wpOp_build1 {ops : Array Oper} {Q : Exit → Act → World → Prop} {i : Nat} {o : Oper} {K : Act → World → Prop} {a : Act} {w : World} (hi : ops[i]? = some o) (hw : Region.wanted o (yielded ops a.tmps) = true) (x : Operand) (ho : o.op = .buildSlice 22 1 #[(0, x)]) (V M : List Int) (hV : Byt V) (hM : Byt M) (hx : a.eval x = .agg (cv V M)) (d : Option Tmp) (hd : o.dst = d)
    (hK : ∀ v w', Sl w' v [(V, M)] → Below w.heap.size w w' → K (a.put d v) w') : wpOp Try.prog ops Q i K a w := by
  subst hd
  refine wpOp_wanted hi hw ?_
  obtain ⟨ie, hie, hz, hs, _⟩ := infoC
  refine wp_buildSlice 22 30 1 _ ho (cv V M) ie (.agg zeroC) Try.underlying22 hie hz (by rw [hs]; decide) (by rw [hs]; decide) ?_ (hK _ _ (sl_one w V M hV hM) ((Below.refl _ _).alloc (Nat.le_refl _) _))
  have hsz := cv_size V M hV.1 hM.1
  simp only [List.map_toArray, List.map_cons, List.map_nil, hx, Instr.fill, hs, Nat.zero_mul, Value.cells, hsz]
  rw [if_neg (by simp)]
  congr 1
  exact fold_all _ _ (by rw [hsz]; simp)
def cells2 : Array Value := hv (m0 ++ m128 ++ m128 ++ m128)
theorem fill2 : Instr.fill (fun i => some (i * 26, 26)) ((Array.range (2 * 26)).map ((Value.agg zeroC).cells[· % (Value.agg zeroC).cells.size]!)) [(0, .agg (cv m0 m128)), (1, .agg (cv m128 m128))] = some cells2 := by kernel_rfl
theorem cells2_eq : cells2.toList = ccells [(m0, m128), (m128, m128)] := by kernel_rfl
theorem wpOp_build2 {ops : Array Oper} {Q : Exit → Act → World → Prop} {i : Nat} {o : Oper} {K : Act → World → Prop} {a : Act} {w : World} (hi : ops[i]? = some o) (hw : Region.wanted o (yielded ops a.tmps) = true) (x y : Operand) (ho : o.op = .buildSlice 22 2 #[(0, x), (1, y)]) (hx : a.eval x = .agg (cv m0 m128)) (hy : a.eval y = .agg (cv m128 m128)) (d : Option Tmp) (hd : o.dst = d)
    (hK : ∀ v w', Sl w' v [(m0, m128), (m128, m128)] → Below w.heap.size w w' → K (a.put d v) w') : wpOp Try.prog ops Q i K a w := by
  subst hd
  refine wpOp_wanted hi hw ?_
  obtain ⟨ie, hie, hz, hs, _⟩ := infoC
  refine wp_buildSlice 22 30 2 _ ho cells2 ie (.agg zeroC) Try.underlying22 hie hz (by rw [hs]; decide) (by rw [hs]; decide) ?_ (hK _ _ ?_ ((Below.refl _ _).alloc (Nat.le_refl _) _))
  · simp only [List.map_toArray, List.map_cons, List.map_nil, hx, hy, hs]
    exact fill2
  · have := World.ownsRow_lit (base := w.heap.size) (e := 30) (size := 26) w cells2 2 (Nat.le_refl _) (by unfold maxLen; omega) (by kernel_rfl)
    rw [cells2_eq] at this
    exact sl_of this (fun c hc => by
      simp only [List.mem_cons, List.not_mem_nil, or_false] at hc
      rcases hc with rfl | rfl
      · exact ⟨b0, b128⟩
      · exact ⟨b128, b128⟩)
theorem wpOp_new26 {ops : Array Oper} {Q : Exit → Act → World → Prop} {i : Nat} {o : Oper} {K : Act → World → Prop} {a : Act} {w : World} (hi : ops[i]? = some o) (hw : Region.wanted o (yielded ops a.tmps) = true) (ho : o.op = .alloc 24) (d : Option Tmp) (hd : o.dst = d)
    (hK : ∀ g w', w.heap.size ≤ g → w'.heap[g]? = some (.cells zero26 24 (0, 0)) → Below w.heap.size w w' → K (a.put d (.pointer (some ⟨g, 0, none⟩))) w') : wpOp Try.prog ops Q i K a w :=
  wpOp_alloc26 hi hw ho d hd (hK _ _ (Nat.le_refl _) (heap_new _ _ _ rfl) ((Below.refl _ _).alloc (Nat.le_refl _) _))

theorem aw1 : leftC m0 m0 [(m0, m128), (m128, m128)] (bnd 9) = some [] := by kernel_rfl
theorem aw2 : leftC m0 m0 [(m0, m128)] (bnd 9) = some [(m128, m128)] := by kernel_rfl
theorem aw3 : outH (some [(m128, m128)]) = m128 := by kernel_rfl
theorem aw4 : fixV m0 m0 0 true = m128 := by kernel_rfl
theorem aw5 (w : World) : Calls Try.prog 24 #[.agg (cv m0 m0), .int .i64 0] w fun e w' => e = .returned (.tuple #[.agg (cv m0 m128), .agg (cv m128 m128), .int .i64 0]) ∧ Below w.heap.size w w' := by
  have := split_free m0 m0 b0 b0 0 (by decide) (by kernel_rfl) w; rwa [ex1, ex2, aw4] at this
theorem aw6 (v : Value) (w : World) (hs : Sl w v [(m0, m128), (m128, m128)]) : Calls Try.prog 18 #[v, .agg (cv m0 m0), .int .i64 9] w fun e w' => e = .returned (.tuple #[.bool true, .int .i64 0]) ∧ Below w.heap.size w w' := by
  have := covers_any m0 m0 b0 b0 _ (by simp) 9 v w hs; rwa [aw1] at this
theorem aw7 (v : Value) (w : World) (hs : Sl w v [(m0, m128)]) : Calls Try.prog 20 #[.agg (cv m0 m0), v, .int .i64 9] w fun e w' => e = .returned (.tuple #[.agg (hv m128), .bool true, .int .i64 0]) ∧ Below w.heap.size w w' := by
  have := out_any m0 m0 b0 b0 _ (by simp) 9 v w hs; rwa [aw2, aw3] at this
theorem run_All (o : Oper) (xs : Array Operand) (ts : Array TypeId) (ho : o.op = .call { callee := .value (.func 25), args := xs, argTypes := ts }) : ∀ (b : Act) (w : World), (execOp b.eval o).run Try.prog w = .ok (.enter 25 (xs.map b.eval)) w := fun b w => by
  obtain ⟨dst, op, ty, pos, after, guard⟩ := o
  subst ho
  have hf := Try.func25
  simp [go_sem]
theorem run_Covers (o : Oper) (xs : Array Operand) (ts : Array TypeId) (ho : o.op = .call { callee := .value (.func 18), args := xs, argTypes := ts }) : ∀ (b : Act) (w : World), (execOp b.eval o).run Try.prog w = .ok (.enter 18 (xs.map b.eval)) w := fun b w => by
  obtain ⟨dst, op, ty, pos, after, guard⟩ := o
  subst ho
  have hf := Try.func18
  simp [go_sem]
theorem run_Outside (o : Oper) (xs : Array Operand) (ts : Array TypeId) (ho : o.op = .call { callee := .value (.func 20), args := xs, argTypes := ts }) : ∀ (b : Act) (w : World), (execOp b.eval o).run Try.prog w = .ok (.enter 20 (xs.map b.eval)) w := fun b w => by
  obtain ⟨dst, op, ty, pos, after, guard⟩ := o
  subst ho
  have hf := Try.func20
  simp [go_sem]
theorem Sl.stay {w w' : World} {v : Value} {C : List (List Int × List Int)} (h : Sl w v C) (hb : Below w.heap.size w w') : Sl w' v C := h.below hb

set_option maxHeartbeats 4000000 in
theorem awake3_any (w : World) : Calls Try.prog 9 #[] w fun e w' => e = .returned (.bool true) ∧ Below w.heap.size w w' := by
  have l0 : m0.length = 13 := rfl
  have l128 : m128.length = 13 := rfl
  have HC : Hid (∀ (v : Value) (W : World), Sl W v [(m0, m128), (m128, m128)] → Calls Try.prog 18 #[v, .agg (cv m0 m0), .int .i64 9] W fun e w' => e = .returned (.tuple #[.bool true, .int .i64 0]) ∧ Below W.heap.size W w') := aw6
  have HO : Hid (∀ (v : Value) (W : World), Sl W v [(m0, m128)] → Calls Try.prog 20 #[.agg (cv m0 m0), v, .int .i64 9] W fun e w' => e = .returned (.tuple #[.agg (hv m128), .bool true, .int .i64 0]) ∧ Below W.heap.size W w') := aw7
  go_enter Try.func9, Try.ntmps9
  go_wp2_with fail
  refine (all0 _).mono ?_
  rintro e w1 ⟨rfl, hb1⟩
  go_wp2_with fail
  refine (aw5 _).mono ?_
  rintro e w2 ⟨rfl, hb2⟩
  have B2 := hb1.trans (hb2.mono hb1.size)
  have B3 := (B2.alloc B2.size (.cells (cv m0 m128) 30)).alloc (by simp; have := B2.size; omega) (.cells (cv m128 m128) 30)
  have g1 : ((w2.alloc (.cells (cv m0 m128) 30)).alloc (.cells (cv m128 m128) 30)).heap[w2.heap.size]? = some (.cells (cv m0 m128) 30 (0, 0)) := heap_past _ _ _ _ (heap_new _ _ _ rfl)
  have g2 : ((w2.alloc (.cells (cv m0 m128) 30)).alloc (.cells (cv m128 m128) 30)).heap[w2.heap.size + 1]? = some (.cells (cv m128 m128) 30 (0, 0)) := heap_new _ _ _ (by simp)
  obtain ⟨wq, hwq⟩ : ∃ wq, wq = (w2.alloc (.cells (cv m0 m128) 30)).alloc (.cells (cv m128 m128) 30) := ⟨_, rfl⟩
  clear hb1 hb2 B2
  go_wp2_with (first
    | (refine wl_storeC rfl _ _ rfl w2.heap.size m0 m128 rfl rfl _ (heap_past _ _ _ _ (heap_new _ _ _ rfl)) rfl l0 l128 _ (setRow_two _ _ _ _ _) ?_)
    | (refine wl_storeC rfl _ _ rfl (w2.heap.size + 1) m128 m128 rfl rfl _ (heap_new _ _ _ (by simp)) rfl l128 l128 _ (setRow_new _ _ _ _ _ (by simp)) ?_))
  rw [← hwq] at B3 g1 g2 ⊢
  clear hwq
  have ne1 := Later.ne wq
  refine region_cut (fun a a' w' => ∃ y15 y16 y17 y18 y19 y20 y21 y22, a' = ((((((((((a.put (some 4) (.bool true)).put (some 5) (.int .i64 0)).put (some 15) y15).put (some 16) y16).put (some 17) y17).put (some 18) y18).put (some 19) y19).put (some 20) y20).put (some 21) y21).put (some 22) y22) ∧ Below wq.heap.size wq w') ?_ ?_
  · refine region_begin 10 rfl (by kernel_rfl) ?_
    have hW0 : Below wq.heap.size wq wq.drew := (Below.refl _ _).drew
    refine region_reads 0 2 8 rfl (by kernel_rfl) (by kernel_rfl) (by kernel_rfl) (by intro d v c a w h; exact absurd h.1 (by simp)) ⟨⟨wq.drew, hW0⟩, rfl⟩ ?_
    simp only [List.drop_zero, List.take_succ_cons, List.take_zero]
    refine qlC rfl _ rfl w2.heap.size rfl m0 m128 g1 l0 l128 ?_
    simp only [Act.put, List.setIfInBounds_toArray, List.set_cons_succ, List.set_cons_zero]
    refine qlC rfl _ rfl (w2.heap.size + 1) rfl m128 m128 g2 l128 l128 ?_
    simp only [Act.put, List.setIfInBounds_toArray, List.set_cons_succ, List.set_cons_zero]
    refine wpQuiet_nil ?_
    refine wpAnyH_all (rs := [2, 3]) (by kernel_rfl) (by decide) ?_
    intro i hi
    simp only [List.mem_cons, List.not_mem_nil, or_false] at hi
    rcases hi with rfl | rfl
    · refine wpOp_build2 rfl rfl _ _ rfl rfl rfl (some 18) rfl ?_
      intro s1 x1 hs1 hx1
      have hW2 : Below wq.heap.size wq x1 := hW0.trans (hx1.mono (hW0).size)
      refine ⟨⟨⟨x1, hW2⟩, rfl⟩, ?_⟩
      simp only [Act.put, List.setIfInBounds_toArray, List.set_cons_succ, List.set_cons_zero]
      refine wpAnyH_all (rs := [3]) (by kernel_rfl) (by decide) ?_
      intro i hi
      obtain rfl := List.mem_singleton.1 hi
      refine wpOp_call rfl rfl 25 #[] (run_All _ _ _ rfl) #[] rfl (fun v w' => v = .agg (cv m0 m0) ∧ Below x1.heap.size x1 w') ((all0 _).mono fun e w' h => ⟨_, h.1, rfl, h.2⟩) (some 19) rfl ?_
      rintro v x3 ⟨rfl, hx3⟩
      have hW4 : Below wq.heap.size wq x3 := hW2.trans (hx3.mono (hW2).size)
      have hS4 := Sl.stay hs1 hx3
      refine ⟨⟨⟨x3, hW4⟩, rfl⟩, ?_⟩
      simp only [Act.put, List.setIfInBounds_toArray, List.set_cons_succ, List.set_cons_zero]
      refine wpAnyH_all (rs := [4]) (by kernel_rfl) (by decide) ?_
      intro i hi
      obtain rfl := List.mem_singleton.1 hi
      refine wpOp_call rfl rfl 18 #[.tmp 18, .tmp 19, .const (.int .i64 9)] (run_Covers _ _ _ rfl) #[s1, .agg (cv m0 m0), .int .i64 9] rfl (fun v w' => v = .tuple #[.bool true, .int .i64 0] ∧ Below x3.heap.size x3 w') ((HC.out _ _ hS4).mono fun e w' h => ⟨_, h.1, rfl, h.2⟩) (some 20) rfl ?_
      rintro v x5 ⟨rfl, hx5⟩
      have hW6 : Below wq.heap.size wq x5 := hW4.trans (hx5.mono (hW4).size)
      refine ⟨⟨⟨x5, hW6⟩, rfl⟩, ?_⟩
      simp only [Act.put, List.setIfInBounds_toArray, List.set_cons_succ, List.set_cons_zero]
      refine region_reads 5 5 0 rfl (by kernel_rfl) (by kernel_rfl) (by kernel_rfl) (by intro d v c a w h; exact absurd h.1 (by simp)) ⟨⟨x5, hW6⟩, rfl⟩ ?_
      simp only [List.drop_succ_cons, List.drop_zero, List.take_succ_cons, List.take_zero]
      repeat go_big_quiet_step (fail)
      refine wpQuiet_nil ?_
      refine wpAnyH_done (by kernel_rfl) ?_ _
      exact ⟨rfl, _, _, _, _, _, _, _, _, rfl, hW6⟩
    · refine wpOp_call rfl rfl 25 #[] (run_All _ _ _ rfl) #[] rfl (fun v w' => v = .agg (cv m0 m0) ∧ Below wq.drew.heap.size wq.drew w') ((all0 _).mono fun e w' h => ⟨_, h.1, rfl, h.2⟩) (some 19) rfl ?_
      rintro v x7 ⟨rfl, hx7⟩
      have hW8 : Below wq.heap.size wq x7 := hW0.trans (hx7.mono (hW0).size)
      refine ⟨⟨⟨x7, hW8⟩, rfl⟩, ?_⟩
      simp only [Act.put, List.setIfInBounds_toArray, List.set_cons_succ, List.set_cons_zero]
      refine wpAnyH_all (rs := [2]) (by kernel_rfl) (by decide) ?_
      intro i hi
      obtain rfl := List.mem_singleton.1 hi
      refine wpOp_build2 rfl rfl _ _ rfl rfl rfl (some 18) rfl ?_
      intro s9 x9 hs9 hx9
      have hW10 : Below wq.heap.size wq x9 := hW8.trans (hx9.mono (hW8).size)
      refine ⟨⟨⟨x9, hW10⟩, rfl⟩, ?_⟩
      simp only [Act.put, List.setIfInBounds_toArray, List.set_cons_succ, List.set_cons_zero]
      refine wpAnyH_all (rs := [4]) (by kernel_rfl) (by decide) ?_
      intro i hi
      obtain rfl := List.mem_singleton.1 hi
      refine wpOp_call rfl rfl 18 #[.tmp 18, .tmp 19, .const (.int .i64 9)] (run_Covers _ _ _ rfl) #[s9, .agg (cv m0 m0), .int .i64 9] rfl (fun v w' => v = .tuple #[.bool true, .int .i64 0] ∧ Below x9.heap.size x9 w') ((HC.out _ _ hs9).mono fun e w' h => ⟨_, h.1, rfl, h.2⟩) (some 20) rfl ?_
      rintro v x11 ⟨rfl, hx11⟩
      have hW12 : Below wq.heap.size wq x11 := hW10.trans (hx11.mono (hW10).size)
      refine ⟨⟨⟨x11, hW12⟩, rfl⟩, ?_⟩
      simp only [Act.put, List.setIfInBounds_toArray, List.set_cons_succ, List.set_cons_zero]
      refine region_reads 5 5 0 rfl (by kernel_rfl) (by kernel_rfl) (by kernel_rfl) (by intro d v c a w h; exact absurd h.1 (by simp)) ⟨⟨x11, hW12⟩, rfl⟩ ?_
      simp only [List.drop_succ_cons, List.drop_zero, List.take_succ_cons, List.take_zero]
      repeat go_big_quiet_step (fail)
      refine wpQuiet_nil ?_
      refine wpAnyH_done (by kernel_rfl) ?_ _
      exact ⟨rfl, _, _, _, _, _, _, _, _, rfl, hW12⟩
  rintro a' w3 ⟨y15, y16, y17, y18, y19, y20, y21, y22, rfl, hb3⟩
  simp only [Act.put, List.setIfInBounds_toArray, List.set_cons_succ, List.set_cons_zero]
  have B4 := B3.trans (hb3.mono B3.size)
  have g3 : w3.heap[w2.heap.size]? = some (.cells (cv m0 m128) 30 (0, 0)) := by rw [hb3.block _ (Array.getElem?_eq_some_iff.1 g1).1]; exact g1
  clear hb3 B3 g1 g2 ne1 HC
  have ne2 := Later.ne w3
  go_wp2_with fail
  refine region_cut (fun a a' w' => ∃ g z23 z24 z25 z26 z27 z28 z29 z30, a' = (((((((((((a.put (some 6) (.pointer (some ⟨g, 0, none⟩))).put (some 7) (.bool true)).put (some 8) (.int .i64 0)).put (some 23) z23).put (some 24) z24).put (some 25) z25).put (some 26) z26).put (some 27) z27).put (some 28) z28).put (some 29) z29).put (some 30) z30) ∧ w'.heap[g]? = some (.cells (hv m128) 24 (0, 0)) ∧ Below w3.heap.size w3 w') ?_ ?_
  · refine region_begin 12 rfl (by kernel_rfl) ?_
    have hW0 : Below w3.heap.size w3 w3.drew := (Below.refl _ _).drew
    refine region_reads 1 1 11 rfl (by kernel_rfl) (by kernel_rfl) (by kernel_rfl) (by intro d v c a w h; exact absurd h.1 (by simp)) ⟨⟨w3.drew, hW0⟩, rfl⟩ ?_
    simp only [List.drop_succ_cons, List.drop_zero, List.take_succ_cons, List.take_zero]
    refine qlC rfl _ rfl w2.heap.size rfl m0 m128 g3 l0 l128 ?_
    simp only [Act.put, List.setIfInBounds_toArray, List.set_cons_succ, List.set_cons_zero]
    refine wpQuiet_nil ?_
    refine wpAnyH_all (rs := [0, 2, 8]) (by kernel_rfl) (by decide) ?_
    intro i hi
    simp only [List.mem_cons, List.not_mem_nil, or_false] at hi
    rcases hi with rfl | rfl | rfl
    · refine wpOp_call rfl rfl 25 #[] (run_All _ _ _ rfl) #[] rfl (fun v w' => v = .agg (cv m0 m0) ∧ Below w3.drew.heap.size w3.drew w') ((all0 _).mono fun e w' h => ⟨_, h.1, rfl, h.2⟩) (some 24) rfl ?_
      rintro v x13 ⟨rfl, hx13⟩
      have hW14 : Below w3.heap.size w3 x13 := hW0.trans (hx13.mono (hW0).size)
      refine ⟨⟨⟨x13, hW14⟩, rfl⟩, ?_⟩
      simp only [Act.put, List.setIfInBounds_toArray, List.set_cons_succ, List.set_cons_zero]
      refine wpAnyH_all (rs := [2, 8]) (by kernel_rfl) (by decide) ?_
      intro i hi
      simp only [List.mem_cons, List.not_mem_nil, or_false] at hi
      rcases hi with rfl | rfl
      · refine wpOp_build1 rfl rfl _ rfl m0 m128 b0 b128 rfl (some 26) rfl ?_
        intro s15 x15 hs15 hx15
        have hW16 : Below w3.heap.size w3 x15 := hW14.trans (hx15.mono (hW14).size)
        refine ⟨⟨⟨x15, hW16⟩, rfl⟩, ?_⟩
        simp only [Act.put, List.setIfInBounds_toArray, List.set_cons_succ, List.set_cons_zero]
        refine wpAnyH_all (rs := [3, 8]) (by kernel_rfl) (by decide) ?_
        intro i hi
        simp only [List.mem_cons, List.not_mem_nil, or_false] at hi
        rcases hi with rfl | rfl
        · refine wpOp_call rfl rfl 20 #[.tmp 24, .tmp 26, .const (.int .i64 9)] (run_Outside _ _ _ rfl) #[.agg (cv m0 m0), s15, .int .i64 9] rfl (fun v w' => v = .tuple #[.agg (hv m128), .bool true, .int .i64 0] ∧ Below x15.heap.size x15 w') ((HO.out _ _ hs15).mono fun e w' h => ⟨_, h.1, rfl, h.2⟩) (some 27) rfl ?_
          rintro v x17 ⟨rfl, hx17⟩
          have hW18 : Below w3.heap.size w3 x17 := hW16.trans (hx17.mono (hW16).size)
          refine ⟨⟨⟨x17, hW18⟩, rfl⟩, ?_⟩
          simp only [Act.put, List.setIfInBounds_toArray, List.set_cons_succ, List.set_cons_zero]
          refine region_reads 4 4 4 rfl (by kernel_rfl) (by kernel_rfl) (by kernel_rfl) (by intro d v c a w h; exact absurd h.1 (by simp)) ⟨⟨x17, hW18⟩, rfl⟩ ?_
          simp only [List.drop_succ_cons, List.drop_zero, List.take_succ_cons, List.take_zero]
          repeat go_big_quiet_step (fail)
          refine wpQuiet_nil ?_
          refine wpAnyH_all (rs := [8]) (by kernel_rfl) (by decide) ?_
          intro i hi
          obtain rfl := List.mem_singleton.1 hi
          refine wpOp_new26 rfl rfl rfl (some 6) rfl ?_
          intro q19 x19 hq19 hz19 hx19
          have hge19 : w3.heap.size ≤ q19 := Nat.le_trans (hW18).size hq19
          have hW20 : Below w3.heap.size w3 x19 := hW18.trans (hx19.mono (hW18).size)
          refine ⟨⟨⟨x19, hW20⟩, rfl⟩, ?_⟩
          simp only [Act.put, List.setIfInBounds_toArray, List.set_cons_succ, List.set_cons_zero]
          refine wpAnyH_all (rs := [9]) (by kernel_rfl) (by decide) ?_
          intro i hi
          obtain rfl := List.mem_singleton.1 hi
          refine wpOp_store26 rfl rfl _ _ rfl q19 m128 rfl rfl _ hz19 rfl l128 none rfl ?_
          have hWE := below_setRow hW20 hge19 (hv m128)
          refine ⟨⟨⟨_, hWE⟩, rfl⟩, ?_⟩
          simp only [Act.put]
          refine region_reads 10 2 0 rfl (by kernel_rfl) (by kernel_rfl) (by kernel_rfl) (by intro d v c a w h; exact absurd h.1 (by simp)) ⟨⟨_, hWE⟩, rfl⟩ ?_
          simp only [List.drop_succ_cons, List.drop_zero, List.take_succ_cons, List.take_zero]
          repeat go_big_quiet_step (fail)
          refine wpQuiet_nil ?_
          refine wpAnyH_done (by kernel_rfl) ?_ _
          exact ⟨rfl, q19, _, _, _, _, _, _, _, _, rfl, setRow_heap _ _ _ _ _ _ hz19, hWE⟩
        · refine wpOp_new26 rfl rfl rfl (some 6) rfl ?_
          intro q21 x21 hq21 hz21 hx21
          have hge21 : w3.heap.size ≤ q21 := Nat.le_trans (hW16).size hq21
          have hW22 : Below w3.heap.size w3 x21 := hW16.trans (hx21.mono (hW16).size)
          have hS22 := Sl.stay hs15 hx21
          refine ⟨⟨⟨x21, hW22⟩, rfl⟩, ?_⟩
          simp only [Act.put, List.setIfInBounds_toArray, List.set_cons_succ, List.set_cons_zero]
          refine wpAnyH_all (rs := [3]) (by kernel_rfl) (by decide) ?_
          intro i hi
          obtain rfl := List.mem_singleton.1 hi
          refine wpOp_call rfl rfl 20 #[.tmp 24, .tmp 26, .const (.int .i64 9)] (run_Outside _ _ _ rfl) #[.agg (cv m0 m0), s15, .int .i64 9] rfl (fun v w' => v = .tuple #[.agg (hv m128), .bool true, .int .i64 0] ∧ Below x21.heap.size x21 w') ((HO.out _ _ hS22).mono fun e w' h => ⟨_, h.1, rfl, h.2⟩) (some 27) rfl ?_
          rintro v x23 ⟨rfl, hx23⟩
          have hW24 : Below w3.heap.size w3 x23 := hW22.trans (hx23.mono (hW22).size)
          have hA24 : x23.heap[q21]? = some (.cells zero26 24 (0, 0)) := by rw [hx23.block _ (Array.getElem?_eq_some_iff.1 hz21).1]; exact hz21
          refine ⟨⟨⟨x23, hW24⟩, rfl⟩, ?_⟩
          simp only [Act.put, List.setIfInBounds_toArray, List.set_cons_succ, List.set_cons_zero]
          refine region_reads 4 4 3 rfl (by kernel_rfl) (by kernel_rfl) (by kernel_rfl) (by intro d v c a w h; exact absurd h.1 (by simp)) ⟨⟨x23, hW24⟩, rfl⟩ ?_
          simp only [List.drop_succ_cons, List.drop_zero, List.take_succ_cons, List.take_zero]
          repeat go_big_quiet_step (fail)
          refine wpQuiet_nil ?_
          refine wpAnyH_all (rs := [9]) (by kernel_rfl) (by decide) ?_
          intro i hi
          obtain rfl := List.mem_singleton.1 hi
          refine wpOp_store26 rfl rfl _ _ rfl q21 m128 rfl rfl _ hA24 rfl l128 none rfl ?_
          have hWE := below_setRow hW24 hge21 (hv m128)
          refine ⟨⟨⟨_, hWE⟩, rfl⟩, ?_⟩
          simp only [Act.put]
          refine region_reads 10 2 0 rfl (by kernel_rfl) (by kernel_rfl) (by kernel_rfl) (by intro d v c a w h; exact absurd h.1 (by simp)) ⟨⟨_, hWE⟩, rfl⟩ ?_
          simp only [List.drop_succ_cons, List.drop_zero, List.take_succ_cons, List.take_zero]
          repeat go_big_quiet_step (fail)
          refine wpQuiet_nil ?_
          refine wpAnyH_done (by kernel_rfl) ?_ _
          exact ⟨rfl, q21, _, _, _, _, _, _, _, _, rfl, setRow_heap _ _ _ _ _ _ hA24, hWE⟩
      · refine wpOp_new26 rfl rfl rfl (some 6) rfl ?_
        intro q25 x25 hq25 hz25 hx25
        have hge25 : w3.heap.size ≤ q25 := Nat.le_trans (hW14).size hq25
        have hW26 : Below w3.heap.size w3 x25 := hW14.trans (hx25.mono (hW14).size)
        refine ⟨⟨⟨x25, hW26⟩, rfl⟩, ?_⟩
        simp only [Act.put, List.setIfInBounds_toArray, List.set_cons_succ, List.set_cons_zero]
        refine wpAnyH_all (rs := [2]) (by kernel_rfl) (by decide) ?_
        intro i hi
        obtain rfl := List.mem_singleton.1 hi
        refine wpOp_build1 rfl rfl _ rfl m0 m128 b0 b128 rfl (some 26) rfl ?_
        intro s27 x27 hs27 hx27
        have hW28 : Below w3.heap.size w3 x27 := hW26.trans (hx27.mono (hW26).size)
        have hA28 : x27.heap[q25]? = some (.cells zero26 24 (0, 0)) := by rw [hx27.block _ (Array.getElem?_eq_some_iff.1 hz25).1]; exact hz25
        refine ⟨⟨⟨x27, hW28⟩, rfl⟩, ?_⟩
        simp only [Act.put, List.setIfInBounds_toArray, List.set_cons_succ, List.set_cons_zero]
        refine wpAnyH_all (rs := [3]) (by kernel_rfl) (by decide) ?_
        intro i hi
        obtain rfl := List.mem_singleton.1 hi
        refine wpOp_call rfl rfl 20 #[.tmp 24, .tmp 26, .const (.int .i64 9)] (run_Outside _ _ _ rfl) #[.agg (cv m0 m0), s27, .int .i64 9] rfl (fun v w' => v = .tuple #[.agg (hv m128), .bool true, .int .i64 0] ∧ Below x27.heap.size x27 w') ((HO.out _ _ hs27).mono fun e w' h => ⟨_, h.1, rfl, h.2⟩) (some 27) rfl ?_
        rintro v x29 ⟨rfl, hx29⟩
        have hW30 : Below w3.heap.size w3 x29 := hW28.trans (hx29.mono (hW28).size)
        have hA30 : x29.heap[q25]? = some (.cells zero26 24 (0, 0)) := by rw [hx29.block _ (Array.getElem?_eq_some_iff.1 hA28).1]; exact hA28
        refine ⟨⟨⟨x29, hW30⟩, rfl⟩, ?_⟩
        simp only [Act.put, List.setIfInBounds_toArray, List.set_cons_succ, List.set_cons_zero]
        refine region_reads 4 4 3 rfl (by kernel_rfl) (by kernel_rfl) (by kernel_rfl) (by intro d v c a w h; exact absurd h.1 (by simp)) ⟨⟨x29, hW30⟩, rfl⟩ ?_
        simp only [List.drop_succ_cons, List.drop_zero, List.take_succ_cons, List.take_zero]
        repeat go_big_quiet_step (fail)
        refine wpQuiet_nil ?_
        refine wpAnyH_all (rs := [9]) (by kernel_rfl) (by decide) ?_
        intro i hi
        obtain rfl := List.mem_singleton.1 hi
        refine wpOp_store26 rfl rfl _ _ rfl q25 m128 rfl rfl _ hA30 rfl l128 none rfl ?_
        have hWE := below_setRow hW30 hge25 (hv m128)
        refine ⟨⟨⟨_, hWE⟩, rfl⟩, ?_⟩
        simp only [Act.put]
        refine region_reads 10 2 0 rfl (by kernel_rfl) (by kernel_rfl) (by kernel_rfl) (by intro d v c a w h; exact absurd h.1 (by simp)) ⟨⟨_, hWE⟩, rfl⟩ ?_
        simp only [List.drop_succ_cons, List.drop_zero, List.take_succ_cons, List.take_zero]
        repeat go_big_quiet_step (fail)
        refine wpQuiet_nil ?_
        refine wpAnyH_done (by kernel_rfl) ?_ _
        exact ⟨rfl, q25, _, _, _, _, _, _, _, _, rfl, setRow_heap _ _ _ _ _ _ hA30, hWE⟩
    · refine wpOp_build1 rfl rfl _ rfl m0 m128 b0 b128 rfl (some 26) rfl ?_
      intro s31 x31 hs31 hx31
      have hW32 : Below w3.heap.size w3 x31 := hW0.trans (hx31.mono (hW0).size)
      refine ⟨⟨⟨x31, hW32⟩, rfl⟩, ?_⟩
      simp only [Act.put, List.setIfInBounds_toArray, List.set_cons_succ, List.set_cons_zero]
      refine wpAnyH_all (rs := [0, 8]) (by kernel_rfl) (by decide) ?_
      intro i hi
      simp only [List.mem_cons, List.not_mem_nil, or_false] at hi
      rcases hi with rfl | rfl
      · refine wpOp_call rfl rfl 25 #[] (run_All _ _ _ rfl) #[] rfl (fun v w' => v = .agg (cv m0 m0) ∧ Below x31.heap.size x31 w') ((all0 _).mono fun e w' h => ⟨_, h.1, rfl, h.2⟩) (some 24) rfl ?_
        rintro v x33 ⟨rfl, hx33⟩
        have hW34 : Below w3.heap.size w3 x33 := hW32.trans (hx33.mono (hW32).size)
        have hS34 := Sl.stay hs31 hx33
        refine ⟨⟨⟨x33, hW34⟩, rfl⟩, ?_⟩
        simp only [Act.put, List.setIfInBounds_toArray, List.set_cons_succ, List.set_cons_zero]
        refine wpAnyH_all (rs := [3, 8]) (by kernel_rfl) (by decide) ?_
        intro i hi
        simp only [List.mem_cons, List.not_mem_nil, or_false] at hi
        rcases hi with rfl | rfl
        · refine wpOp_call rfl rfl 20 #[.tmp 24, .tmp 26, .const (.int .i64 9)] (run_Outside _ _ _ rfl) #[.agg (cv m0 m0), s31, .int .i64 9] rfl (fun v w' => v = .tuple #[.agg (hv m128), .bool true, .int .i64 0] ∧ Below x33.heap.size x33 w') ((HO.out _ _ hS34).mono fun e w' h => ⟨_, h.1, rfl, h.2⟩) (some 27) rfl ?_
          rintro v x35 ⟨rfl, hx35⟩
          have hW36 : Below w3.heap.size w3 x35 := hW34.trans (hx35.mono (hW34).size)
          refine ⟨⟨⟨x35, hW36⟩, rfl⟩, ?_⟩
          simp only [Act.put, List.setIfInBounds_toArray, List.set_cons_succ, List.set_cons_zero]
          refine region_reads 4 4 4 rfl (by kernel_rfl) (by kernel_rfl) (by kernel_rfl) (by intro d v c a w h; exact absurd h.1 (by simp)) ⟨⟨x35, hW36⟩, rfl⟩ ?_
          simp only [List.drop_succ_cons, List.drop_zero, List.take_succ_cons, List.take_zero]
          repeat go_big_quiet_step (fail)
          refine wpQuiet_nil ?_
          refine wpAnyH_all (rs := [8]) (by kernel_rfl) (by decide) ?_
          intro i hi
          obtain rfl := List.mem_singleton.1 hi
          refine wpOp_new26 rfl rfl rfl (some 6) rfl ?_
          intro q37 x37 hq37 hz37 hx37
          have hge37 : w3.heap.size ≤ q37 := Nat.le_trans (hW36).size hq37
          have hW38 : Below w3.heap.size w3 x37 := hW36.trans (hx37.mono (hW36).size)
          refine ⟨⟨⟨x37, hW38⟩, rfl⟩, ?_⟩
          simp only [Act.put, List.setIfInBounds_toArray, List.set_cons_succ, List.set_cons_zero]
          refine wpAnyH_all (rs := [9]) (by kernel_rfl) (by decide) ?_
          intro i hi
          obtain rfl := List.mem_singleton.1 hi
          refine wpOp_store26 rfl rfl _ _ rfl q37 m128 rfl rfl _ hz37 rfl l128 none rfl ?_
          have hWE := below_setRow hW38 hge37 (hv m128)
          refine ⟨⟨⟨_, hWE⟩, rfl⟩, ?_⟩
          simp only [Act.put]
          refine region_reads 10 2 0 rfl (by kernel_rfl) (by kernel_rfl) (by kernel_rfl) (by intro d v c a w h; exact absurd h.1 (by simp)) ⟨⟨_, hWE⟩, rfl⟩ ?_
          simp only [List.drop_succ_cons, List.drop_zero, List.take_succ_cons, List.take_zero]
          repeat go_big_quiet_step (fail)
          refine wpQuiet_nil ?_
          refine wpAnyH_done (by kernel_rfl) ?_ _
          exact ⟨rfl, q37, _, _, _, _, _, _, _, _, rfl, setRow_heap _ _ _ _ _ _ hz37, hWE⟩
        · refine wpOp_new26 rfl rfl rfl (some 6) rfl ?_
          intro q39 x39 hq39 hz39 hx39
          have hge39 : w3.heap.size ≤ q39 := Nat.le_trans (hW34).size hq39
          have hW40 : Below w3.heap.size w3 x39 := hW34.trans (hx39.mono (hW34).size)
          have hS40 := Sl.stay hS34 hx39
          refine ⟨⟨⟨x39, hW40⟩, rfl⟩, ?_⟩
          simp only [Act.put, List.setIfInBounds_toArray, List.set_cons_succ, List.set_cons_zero]
          refine wpAnyH_all (rs := [3]) (by kernel_rfl) (by decide) ?_
          intro i hi
          obtain rfl := List.mem_singleton.1 hi
          refine wpOp_call rfl rfl 20 #[.tmp 24, .tmp 26, .const (.int .i64 9)] (run_Outside _ _ _ rfl) #[.agg (cv m0 m0), s31, .int .i64 9] rfl (fun v w' => v = .tuple #[.agg (hv m128), .bool true, .int .i64 0] ∧ Below x39.heap.size x39 w') ((HO.out _ _ hS40).mono fun e w' h => ⟨_, h.1, rfl, h.2⟩) (some 27) rfl ?_
          rintro v x41 ⟨rfl, hx41⟩
          have hW42 : Below w3.heap.size w3 x41 := hW40.trans (hx41.mono (hW40).size)
          have hA42 : x41.heap[q39]? = some (.cells zero26 24 (0, 0)) := by rw [hx41.block _ (Array.getElem?_eq_some_iff.1 hz39).1]; exact hz39
          refine ⟨⟨⟨x41, hW42⟩, rfl⟩, ?_⟩
          simp only [Act.put, List.setIfInBounds_toArray, List.set_cons_succ, List.set_cons_zero]
          refine region_reads 4 4 3 rfl (by kernel_rfl) (by kernel_rfl) (by kernel_rfl) (by intro d v c a w h; exact absurd h.1 (by simp)) ⟨⟨x41, hW42⟩, rfl⟩ ?_
          simp only [List.drop_succ_cons, List.drop_zero, List.take_succ_cons, List.take_zero]
          repeat go_big_quiet_step (fail)
          refine wpQuiet_nil ?_
          refine wpAnyH_all (rs := [9]) (by kernel_rfl) (by decide) ?_
          intro i hi
          obtain rfl := List.mem_singleton.1 hi
          refine wpOp_store26 rfl rfl _ _ rfl q39 m128 rfl rfl _ hA42 rfl l128 none rfl ?_
          have hWE := below_setRow hW42 hge39 (hv m128)
          refine ⟨⟨⟨_, hWE⟩, rfl⟩, ?_⟩
          simp only [Act.put]
          refine region_reads 10 2 0 rfl (by kernel_rfl) (by kernel_rfl) (by kernel_rfl) (by intro d v c a w h; exact absurd h.1 (by simp)) ⟨⟨_, hWE⟩, rfl⟩ ?_
          simp only [List.drop_succ_cons, List.drop_zero, List.take_succ_cons, List.take_zero]
          repeat go_big_quiet_step (fail)
          refine wpQuiet_nil ?_
          refine wpAnyH_done (by kernel_rfl) ?_ _
          exact ⟨rfl, q39, _, _, _, _, _, _, _, _, rfl, setRow_heap _ _ _ _ _ _ hA42, hWE⟩
      · refine wpOp_new26 rfl rfl rfl (some 6) rfl ?_
        intro q43 x43 hq43 hz43 hx43
        have hge43 : w3.heap.size ≤ q43 := Nat.le_trans (hW32).size hq43
        have hW44 : Below w3.heap.size w3 x43 := hW32.trans (hx43.mono (hW32).size)
        have hS44 := Sl.stay hs31 hx43
        refine ⟨⟨⟨x43, hW44⟩, rfl⟩, ?_⟩
        simp only [Act.put, List.setIfInBounds_toArray, List.set_cons_succ, List.set_cons_zero]
        refine wpAnyH_all (rs := [0]) (by kernel_rfl) (by decide) ?_
        intro i hi
        obtain rfl := List.mem_singleton.1 hi
        refine wpOp_call rfl rfl 25 #[] (run_All _ _ _ rfl) #[] rfl (fun v w' => v = .agg (cv m0 m0) ∧ Below x43.heap.size x43 w') ((all0 _).mono fun e w' h => ⟨_, h.1, rfl, h.2⟩) (some 24) rfl ?_
        rintro v x45 ⟨rfl, hx45⟩
        have hW46 : Below w3.heap.size w3 x45 := hW44.trans (hx45.mono (hW44).size)
        have hS46 := Sl.stay hS44 hx45
        have hA46 : x45.heap[q43]? = some (.cells zero26 24 (0, 0)) := by rw [hx45.block _ (Array.getElem?_eq_some_iff.1 hz43).1]; exact hz43
        refine ⟨⟨⟨x45, hW46⟩, rfl⟩, ?_⟩
        simp only [Act.put, List.setIfInBounds_toArray, List.set_cons_succ, List.set_cons_zero]
        refine wpAnyH_all (rs := [3]) (by kernel_rfl) (by decide) ?_
        intro i hi
        obtain rfl := List.mem_singleton.1 hi
        refine wpOp_call rfl rfl 20 #[.tmp 24, .tmp 26, .const (.int .i64 9)] (run_Outside _ _ _ rfl) #[.agg (cv m0 m0), s31, .int .i64 9] rfl (fun v w' => v = .tuple #[.agg (hv m128), .bool true, .int .i64 0] ∧ Below x45.heap.size x45 w') ((HO.out _ _ hS46).mono fun e w' h => ⟨_, h.1, rfl, h.2⟩) (some 27) rfl ?_
        rintro v x47 ⟨rfl, hx47⟩
        have hW48 : Below w3.heap.size w3 x47 := hW46.trans (hx47.mono (hW46).size)
        have hA48 : x47.heap[q43]? = some (.cells zero26 24 (0, 0)) := by rw [hx47.block _ (Array.getElem?_eq_some_iff.1 hA46).1]; exact hA46
        refine ⟨⟨⟨x47, hW48⟩, rfl⟩, ?_⟩
        simp only [Act.put, List.setIfInBounds_toArray, List.set_cons_succ, List.set_cons_zero]
        refine region_reads 4 4 3 rfl (by kernel_rfl) (by kernel_rfl) (by kernel_rfl) (by intro d v c a w h; exact absurd h.1 (by simp)) ⟨⟨x47, hW48⟩, rfl⟩ ?_
        simp only [List.drop_succ_cons, List.drop_zero, List.take_succ_cons, List.take_zero]
        repeat go_big_quiet_step (fail)
        refine wpQuiet_nil ?_
        refine wpAnyH_all (rs := [9]) (by kernel_rfl) (by decide) ?_
        intro i hi
        obtain rfl := List.mem_singleton.1 hi
        refine wpOp_store26 rfl rfl _ _ rfl q43 m128 rfl rfl _ hA48 rfl l128 none rfl ?_
        have hWE := below_setRow hW48 hge43 (hv m128)
        refine ⟨⟨⟨_, hWE⟩, rfl⟩, ?_⟩
        simp only [Act.put]
        refine region_reads 10 2 0 rfl (by kernel_rfl) (by kernel_rfl) (by kernel_rfl) (by intro d v c a w h; exact absurd h.1 (by simp)) ⟨⟨_, hWE⟩, rfl⟩ ?_
        simp only [List.drop_succ_cons, List.drop_zero, List.take_succ_cons, List.take_zero]
        repeat go_big_quiet_step (fail)
        refine wpQuiet_nil ?_
        refine wpAnyH_done (by kernel_rfl) ?_ _
        exact ⟨rfl, q43, _, _, _, _, _, _, _, _, rfl, setRow_heap _ _ _ _ _ _ hA48, hWE⟩
    · refine wpOp_new26 rfl rfl rfl (some 6) rfl ?_
      intro q49 x49 hq49 hz49 hx49
      have hge49 : w3.heap.size ≤ q49 := Nat.le_trans (hW0).size hq49
      have hW50 : Below w3.heap.size w3 x49 := hW0.trans (hx49.mono (hW0).size)
      refine ⟨⟨⟨x49, hW50⟩, rfl⟩, ?_⟩
      simp only [Act.put, List.setIfInBounds_toArray, List.set_cons_succ, List.set_cons_zero]
      refine wpAnyH_all (rs := [0, 2]) (by kernel_rfl) (by decide) ?_
      intro i hi
      simp only [List.mem_cons, List.not_mem_nil, or_false] at hi
      rcases hi with rfl | rfl
      · refine wpOp_call rfl rfl 25 #[] (run_All _ _ _ rfl) #[] rfl (fun v w' => v = .agg (cv m0 m0) ∧ Below x49.heap.size x49 w') ((all0 _).mono fun e w' h => ⟨_, h.1, rfl, h.2⟩) (some 24) rfl ?_
        rintro v x51 ⟨rfl, hx51⟩
        have hW52 : Below w3.heap.size w3 x51 := hW50.trans (hx51.mono (hW50).size)
        have hA52 : x51.heap[q49]? = some (.cells zero26 24 (0, 0)) := by rw [hx51.block _ (Array.getElem?_eq_some_iff.1 hz49).1]; exact hz49
        refine ⟨⟨⟨x51, hW52⟩, rfl⟩, ?_⟩
        simp only [Act.put, List.setIfInBounds_toArray, List.set_cons_succ, List.set_cons_zero]
        refine wpAnyH_all (rs := [2]) (by kernel_rfl) (by decide) ?_
        intro i hi
        obtain rfl := List.mem_singleton.1 hi
        refine wpOp_build1 rfl rfl _ rfl m0 m128 b0 b128 rfl (some 26) rfl ?_
        intro s53 x53 hs53 hx53
        have hW54 : Below w3.heap.size w3 x53 := hW52.trans (hx53.mono (hW52).size)
        have hA54 : x53.heap[q49]? = some (.cells zero26 24 (0, 0)) := by rw [hx53.block _ (Array.getElem?_eq_some_iff.1 hA52).1]; exact hA52
        refine ⟨⟨⟨x53, hW54⟩, rfl⟩, ?_⟩
        simp only [Act.put, List.setIfInBounds_toArray, List.set_cons_succ, List.set_cons_zero]
        refine wpAnyH_all (rs := [3]) (by kernel_rfl) (by decide) ?_
        intro i hi
        obtain rfl := List.mem_singleton.1 hi
        refine wpOp_call rfl rfl 20 #[.tmp 24, .tmp 26, .const (.int .i64 9)] (run_Outside _ _ _ rfl) #[.agg (cv m0 m0), s53, .int .i64 9] rfl (fun v w' => v = .tuple #[.agg (hv m128), .bool true, .int .i64 0] ∧ Below x53.heap.size x53 w') ((HO.out _ _ hs53).mono fun e w' h => ⟨_, h.1, rfl, h.2⟩) (some 27) rfl ?_
        rintro v x55 ⟨rfl, hx55⟩
        have hW56 : Below w3.heap.size w3 x55 := hW54.trans (hx55.mono (hW54).size)
        have hA56 : x55.heap[q49]? = some (.cells zero26 24 (0, 0)) := by rw [hx55.block _ (Array.getElem?_eq_some_iff.1 hA54).1]; exact hA54
        refine ⟨⟨⟨x55, hW56⟩, rfl⟩, ?_⟩
        simp only [Act.put, List.setIfInBounds_toArray, List.set_cons_succ, List.set_cons_zero]
        refine region_reads 4 4 3 rfl (by kernel_rfl) (by kernel_rfl) (by kernel_rfl) (by intro d v c a w h; exact absurd h.1 (by simp)) ⟨⟨x55, hW56⟩, rfl⟩ ?_
        simp only [List.drop_succ_cons, List.drop_zero, List.take_succ_cons, List.take_zero]
        repeat go_big_quiet_step (fail)
        refine wpQuiet_nil ?_
        refine wpAnyH_all (rs := [9]) (by kernel_rfl) (by decide) ?_
        intro i hi
        obtain rfl := List.mem_singleton.1 hi
        refine wpOp_store26 rfl rfl _ _ rfl q49 m128 rfl rfl _ hA56 rfl l128 none rfl ?_
        have hWE := below_setRow hW56 hge49 (hv m128)
        refine ⟨⟨⟨_, hWE⟩, rfl⟩, ?_⟩
        simp only [Act.put]
        refine region_reads 10 2 0 rfl (by kernel_rfl) (by kernel_rfl) (by kernel_rfl) (by intro d v c a w h; exact absurd h.1 (by simp)) ⟨⟨_, hWE⟩, rfl⟩ ?_
        simp only [List.drop_succ_cons, List.drop_zero, List.take_succ_cons, List.take_zero]
        repeat go_big_quiet_step (fail)
        refine wpQuiet_nil ?_
        refine wpAnyH_done (by kernel_rfl) ?_ _
        exact ⟨rfl, q49, _, _, _, _, _, _, _, _, rfl, setRow_heap _ _ _ _ _ _ hA56, hWE⟩
      · refine wpOp_build1 rfl rfl _ rfl m0 m128 b0 b128 rfl (some 26) rfl ?_
        intro s57 x57 hs57 hx57
        have hW58 : Below w3.heap.size w3 x57 := hW50.trans (hx57.mono (hW50).size)
        have hA58 : x57.heap[q49]? = some (.cells zero26 24 (0, 0)) := by rw [hx57.block _ (Array.getElem?_eq_some_iff.1 hz49).1]; exact hz49
        refine ⟨⟨⟨x57, hW58⟩, rfl⟩, ?_⟩
        simp only [Act.put, List.setIfInBounds_toArray, List.set_cons_succ, List.set_cons_zero]
        refine wpAnyH_all (rs := [0]) (by kernel_rfl) (by decide) ?_
        intro i hi
        obtain rfl := List.mem_singleton.1 hi
        refine wpOp_call rfl rfl 25 #[] (run_All _ _ _ rfl) #[] rfl (fun v w' => v = .agg (cv m0 m0) ∧ Below x57.heap.size x57 w') ((all0 _).mono fun e w' h => ⟨_, h.1, rfl, h.2⟩) (some 24) rfl ?_
        rintro v x59 ⟨rfl, hx59⟩
        have hW60 : Below w3.heap.size w3 x59 := hW58.trans (hx59.mono (hW58).size)
        have hS60 := Sl.stay hs57 hx59
        have hA60 : x59.heap[q49]? = some (.cells zero26 24 (0, 0)) := by rw [hx59.block _ (Array.getElem?_eq_some_iff.1 hA58).1]; exact hA58
        refine ⟨⟨⟨x59, hW60⟩, rfl⟩, ?_⟩
        simp only [Act.put, List.setIfInBounds_toArray, List.set_cons_succ, List.set_cons_zero]
        refine wpAnyH_all (rs := [3]) (by kernel_rfl) (by decide) ?_
        intro i hi
        obtain rfl := List.mem_singleton.1 hi
        refine wpOp_call rfl rfl 20 #[.tmp 24, .tmp 26, .const (.int .i64 9)] (run_Outside _ _ _ rfl) #[.agg (cv m0 m0), s57, .int .i64 9] rfl (fun v w' => v = .tuple #[.agg (hv m128), .bool true, .int .i64 0] ∧ Below x59.heap.size x59 w') ((HO.out _ _ hS60).mono fun e w' h => ⟨_, h.1, rfl, h.2⟩) (some 27) rfl ?_
        rintro v x61 ⟨rfl, hx61⟩
        have hW62 : Below w3.heap.size w3 x61 := hW60.trans (hx61.mono (hW60).size)
        have hA62 : x61.heap[q49]? = some (.cells zero26 24 (0, 0)) := by rw [hx61.block _ (Array.getElem?_eq_some_iff.1 hA60).1]; exact hA60
        refine ⟨⟨⟨x61, hW62⟩, rfl⟩, ?_⟩
        simp only [Act.put, List.setIfInBounds_toArray, List.set_cons_succ, List.set_cons_zero]
        refine region_reads 4 4 3 rfl (by kernel_rfl) (by kernel_rfl) (by kernel_rfl) (by intro d v c a w h; exact absurd h.1 (by simp)) ⟨⟨x61, hW62⟩, rfl⟩ ?_
        simp only [List.drop_succ_cons, List.drop_zero, List.take_succ_cons, List.take_zero]
        repeat go_big_quiet_step (fail)
        refine wpQuiet_nil ?_
        refine wpAnyH_all (rs := [9]) (by kernel_rfl) (by decide) ?_
        intro i hi
        obtain rfl := List.mem_singleton.1 hi
        refine wpOp_store26 rfl rfl _ _ rfl q49 m128 rfl rfl _ hA62 rfl l128 none rfl ?_
        have hWE := below_setRow hW62 hge49 (hv m128)
        refine ⟨⟨⟨_, hWE⟩, rfl⟩, ?_⟩
        simp only [Act.put]
        refine region_reads 10 2 0 rfl (by kernel_rfl) (by kernel_rfl) (by kernel_rfl) (by intro d v c a w h; exact absurd h.1 (by simp)) ⟨⟨_, hWE⟩, rfl⟩ ?_
        simp only [List.drop_succ_cons, List.drop_zero, List.take_succ_cons, List.take_zero]
        repeat go_big_quiet_step (fail)
        refine wpQuiet_nil ?_
        refine wpAnyH_done (by kernel_rfl) ?_ _
        exact ⟨rfl, q49, _, _, _, _, _, _, _, _, rfl, setRow_heap _ _ _ _ _ _ hA62, hWE⟩
  rintro a' w4 ⟨g, z23, z24, z25, z26, z27, z28, z29, z30, rfl, h6, hb4⟩
  simp only [Act.put, List.setIfInBounds_toArray, List.set_cons_succ, List.set_cons_zero]
  have B5 := B4.trans (hb4.mono B4.size)
  have e1 : ∀ w, (Op.equalIn 10000 24 (.agg (hv m128)) (.agg (hv m128))).run Try.prog w = .ok true w := fun w => by rw [eq26 _ _ l128 l128]; rfl
  have e2 : ∀ w, (Op.equalIn 10000 24 (.agg (hv m128)) (.agg #[.int .u8 128, .int .u8 0, .int .u8 0, .int .u8 0, .int .u8 0, .int .u8 0, .int .u8 0, .int .u8 0, .int .u8 0, .int .u8 0, .int .u8 0, .int .u8 0, .int .u8 0])).run Try.prog w = .ok true w := e1
  have eg : ∀ op x y (xs ys : Array Value) w, (eqGuard op 24 x y (.agg xs) (.agg ys)).run Try.prog w = .ok () w := fun op x y xs ys w => run_eqGuard_agg w op 24 x y xs ys (by kernel_rfl)
  clear hb4 ne2 HO g3 B4
  go_wp2_with (first
    | (refine wl_loadHg rfl _ rfl g rfl m128 h6 l128 ?_))
  go_ret
  exact ⟨rfl, B5⟩
end Go.Proofs.Ytjlghkiplapodaa
