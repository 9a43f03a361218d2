import Derived.Test.YtojhckjdkafpmabJ10
import Derived.Test.YtojhckjdkafpmabJ7
import Derived.Test.YtojhckjdkafpmabJ8
import Derived.Test.YtojhckjdkafpmabJ9
namespace Go.Proofs.Ytojhckjdkafpmab
open Go Go.RowKit
set_option maxRecDepth 20000

theorem leastF_congrM {m m' : Slt → Bool} {k : Slt → Int} : ∀ {C : List Slt}, (∀ y ∈ C, m y = m' y) → leastF m k C = leastF m' k C
  | [], _ => rfl
  | x :: l, h => by
    have ih := leastF_congrM (m := m) (m' := m') (k := k) (C := l) fun y hy => h y (List.mem_cons_of_mem _ hy)
    unfold leastF
    rw [ih, h x (by simp)]
theorem keyC_same {s : Slt} {y : Slt} (hs : OkC s.cube) (hy : OkC y.cube) : keyC s.epoch s y = sameC s y := by
  unfold keyC sameC
  rw [pad_id hs.1.1, pad_id hs.2.1, pad_id hy.1.1, pad_id hy.2.1]
  rfl
theorem build_fresh (e ac nw : Int) (c : Cub) (W : World) : (Instr.build 27 #[(0, .int .i64 1), (1, .int .i64 e), (4, .agg (cv (pad c.1) (pad c.2))), (5, .int .i64 ac), (8, .int .i64 nw), (9, .int .i64 nw)]).run Try.prog W = .ok (.agg (slotV ⟨1, e, 0, 0, c, ac, 0, 0, nw, nw, 0⟩)) W := by kernel_rfl
theorem run_buildOpT {o : Oper} {t : Nat} {ps : Array (Nat × Operand)} (ho : o.op = .build t ps) (a : Act) (W : World) (qs : Array (Nat × Value)) (hq : (ps.map fun (i, x) => (i, a.eval x)) = qs) (v : Value) (h : (Instr.build t qs).run Try.prog W = .ok v W) : (execOp a.eval o).run Try.prog W = .ok (.value v) W := by
  unfold execOp
  simp only [ho, Sem.run_bind, hq, h, Result.andThen_ok, Sem.run_pure]
theorem allocOp_run {o : Oper} (ho : o.op = .alloc 27) (a : Act) (W : World) : (execOp a.eval o).run Try.prog W = .ok (.value (.pointer (some ⟨W.heap.size, 0, none⟩))) (W.alloc (.cells (slotV zeroS) 27)) := by
  unfold execOp
  simp only [ho, Sem.run_bind, alloc_run, Result.andThen_ok, Sem.run_pure]
theorem wpOp_storeS {ops : Array Oper} {Q : Exit → Act → World → Prop} {i : Nat} {o : Oper} {K : Act → World → Prop} {a : Act} {w : World} (hi : ops[i]? = some o) (hgd : o.guard = none) (x y : Operand) (ho : o.op = .store 27 x y)
    (g : Nat) (s z : Slt) (hx : a.eval x = .pointer (some ⟨g, 0, none⟩)) (hy : a.eval y = .agg (slotV s)) (hg : w.heap[g]? = some (.cells (slotV z) 27 (0, 0))) (hd : o.dst = none)
    (hK : K a (w.setRow g (slotV s))) : wpOp Try.prog ops Q i K a w := by
  refine wpOp_of_list hi (wl_storeS hgd x y ho g s z hx hy hg _ rfl ?_)
  rw [hd]
  exact hK
theorem wpOp_storeAtS {ops : Array Oper} {Q : Exit → Act → World → Prop} {i : Nat} {o : Oper} {K : Act → World → Prop} {a : Act} {w : World} (hi : ops[i]? = some o) (hgd : o.guard = none) (x y : Operand) (ho : o.op = .store 27 x y)
    (g off : Nat) (s : Slt) (hx : a.eval x = .pointer (some ⟨g, off, none⟩)) (hy : a.eval y = .agg (slotV s)) (cur : Array Value) (t : TypeId) (hg : w.heap[g]? = some (.cells cur t (0, 0))) (hf : off + 36 ≤ cur.size) (hd : o.dst = none)
    (hK : K a (w.setRow g (cur.toList.take off ++ (slotV s).toList ++ cur.toList.drop (off + 36)).toArray)) : wpOp Try.prog ops Q i K a w := by
  refine wpOp_of_list hi (wl_storeAtS hgd x y ho g off s hx hy cur t hg hf ?_)
  rw [hd]
  exact hK
theorem ret3S {fn : Func} {R : Ending → World → Prop} {a : Act} {w : World} {p u u' : Tmp} (hr : fn.results = #[.cell p 27, .tmp u, .tmp u']) (hd : a.defers = []) (g : Nat) (hp : a.tmps.getD p undef = .pointer (some ⟨g, 0, none⟩)) (x : Slt)
    (hg : w.heap[g]? = some (.cells (slotV x) 27 (0, 0))) (v v' : Value) (hu : a.tmps.getD u undef = v) (hu' : a.tmps.getD u' undef = v') (h : R (.returned (.tuple #[.agg (slotV x), v, v'])) w) : bodyPost Try.prog fn R .ret a w := by
  refine bodyPost_ret (v := .tuple #[.agg (slotV x), v, v']) ?_ hd h
  rw [Array.getD_eq_getD_getElem?] at hp hu hu'
  simp [results, hr, hp, hu, hu', asAddr, ld_own hg]
theorem q_loadC {K : World → Prop} {ops : Array Oper} {Q : Act → Prop} {rest : List Oper} {o : Oper} {a : Act} (hw : Region.wanted o (yielded ops a.tmps) = true) (x : Operand) (ho : o.op = .load 25 x)
    (g : Nat) (hx : a.eval x = .pointer (some ⟨g, 0, none⟩)) (c : Cub) (hg : ∀ w', K w' → w'.heap[g]? = some (.cells (cv (pad c.1) (pad c.2)) 25 (0, 0)))
    (h : wpQuiet Try.prog ops K Q rest (a.put o.dst (.agg (cv (pad c.1) (pad c.2))))) : wpQuiet Try.prog ops K Q (o :: rest) a :=
  qlCw hw x ho g 0 hx _ _ _ (pad c.1) (pad c.2) (pad_len _) (pad_len _) hg (own_cells _ _) h
set_option maxHeartbeats 16000000 in
theorem learn_any (B : Nat) (w : World) (g : Nat) (R : Rm) (S : Bks) (v1 v2 v3 : Value) (h : TabV B w g R S v1 v2 v3) (now e : Int) (c : Cub) (act : Int) (hc : OkC c) (hn : S.c.length ≤ 1000000) (hd : DistC S.c) (hok : ∀ y ∈ S.c, OkC y.cube) :
    Calls Try.prog 5 #[.pointer (some ⟨g, 0, none⟩), .int .i64 now, .int .i64 e, .agg (cv (pad c.1) (pad c.2)), .int .i64 act] w fun r w' => r = .returned (.tuple #[.agg (slotV (learnT R.cache S.c (newC now e (canC c) act)).2.1), .bool (learnT R.cache S.c (newC now e (canC c) act)).2.2.1, .int .i64 (learnT R.cache S.c (newC now e (canC c) act)).2.2.2]) ∧ TabTo B w w' g R { S with c := (learnT R.cache S.c (newC now e (canC c) act)).1 } v1 v2 v3 := by
  obtain ⟨w0, hw0⟩ : ∃ w0, w0 = ((w.alloc (.cells #[.int .i64 e] 3)).alloc (.cells (cv (pad c.1) (pad c.2)) 25)).alloc (.cells (slotV zeroS) 27) := ⟨_, rfl⟩
  have B0 : Hid (Below w.heap.size w w0) := by show Below _ _ _; rw [hw0]; exact (((Below.refl _ _).alloc (Nat.le_refl _) _).alloc (by simp) _).alloc (by simp; omega) _
  have SZ : Hid (w0.heap.size = w.heap.size + 3) := by show _ = _; rw [hw0]; simp
  have E0 : Hid (w0.heap[w.heap.size]? = some (.cells #[.int .i64 e] 3 (0, 0))) := by show _ = _; rw [hw0]; exact heap_past _ _ _ _ (heap_past _ _ _ _ (heap_new _ _ _ rfl))
  have C0 : Hid (w0.heap[w.heap.size + 1]? = some (.cells (cv (pad c.1) (pad c.2)) 25 (0, 0))) := by show _ = _; rw [hw0]; exact heap_past _ _ _ _ (heap_new _ _ _ (by simp))
  have Z0 : Hid (w0.heap[w.heap.size + 1 + 1]? = some (.cells (slotV zeroS) 27 (0, 0))) := by show _ = _; rw [hw0]; exact heap_new _ _ _ (by simp)
  have SE : Hid (w.heap.size < w0.heap.size) := by show _ < _; have := SZ.out; omega
  have SC : Hid (w.heap.size + 1 < w0.heap.size) := by show _ < _; have := SZ.out; omega
  have TI : Hid (∀ W, Calls Try.prog 17 #[.int .i64 now] W fun r w' => r = .returned (.int .i64 (timeT now)) ∧ w' = W) := ticks_any now
  have CA : Hid (∀ W, Calls Try.prog 18 #[.agg (cv (pad c.1) (pad c.2))] W fun e w' => e = .returned (.agg (cv (pad (canC c).1) (pad (canC c).2))) ∧ Below W.heap.size W w') := canonC_any c hc
  have HT : Hid (TabV B w g R S v1 v2 v3) := h
  have T0 := (HT.out.below B0.out).f
  have c1 := T0.c1
  have c5 := T0.c5
  by_cases hr : R.cache = 0
  · have ER : Hid (learnT R.cache S.c (newC now e (canC c) act) = (S.c, zeroS, false, 13)) := by show _ = _; rw [hr]; exact learnT_no _ _
    rw [hr, show ((0 : Nat) : Int) = 0 from rfl] at c1
    clear h hd hok hn hc T0
    go_enter Try.func5, Try.ntmps5
    go_wp2_with (first | ((with_reducible refine wl_gA rfl ?_); refine wl_allocS rfl rfl ?_; try rw [sz_alloc]); refine of_stopS ?_)
    unfold StopS
    rw [← hw0]
    clear hw0
    go_wp2_with (first | ((with_reducible refine wl_gZ rfl ?_); refine wl_buildS rfl rfl ?_) | ((with_reducible refine wl_gS _ _ rfl ?_); refine wl_storeS rfl _ _ rfl (w.heap.size + 1 + 1) zeroS zeroS rfl rfl Z0.out _ rfl ?_))
    refine ret3S (p := 10) (u := 11) (u' := 12) rfl rfl (w.heap.size + 1 + 1) rfl zeroS (setRow_heap _ _ _ _ _ _ Z0.out) _ _ rfl rfl ?_
    rw [ER.out]
    exact ⟨rfl, HT.out.same (below_setRow B0.out (by omega) _)⟩
  · have hr' : ¬ ((R.cache : Nat) : Int) = 0 := by omega
    obtain ⟨rc, hrc⟩ : ∃ rc, rc = ((R.cache : Nat) : Int) := ⟨_, rfl⟩
    rw [← hrc] at c1 hr'
    clear hrc T0
    have IX : Hid (∀ W q, Below w.heap.size w W → W.heap[w.heap.size]? = some (.cells #[.int .i64 e] 3 (0, 0)) → W.heap[q]? = some (.cells (slotV (newC now e (canC c) act)) 27 (0, 0)) → Calls Try.prog 19 #[v1, .func (.func 20) #[] #[.pointer (some ⟨w.heap.size, 0, none⟩), .pointer (some ⟨q, 0, none⟩)]] W fun r w' => (∃ i, r = .returned (.int .i64 i) ∧ Found0 (sameC (newC now e (canC c) act)) S.c i) ∧ Below W.heap.size W w') := by
      intro W q hb he hq
      refine (index_any _ _ W (h.below hb).o1.sl hn 20 #[.pointer (some ⟨w.heap.size, 0, none⟩), .pointer (some ⟨q, 0, none⟩)] (keyC e (newC now e (canC c) act)) (fun vs W => by have hf := Try.func20; simp [go_sem]) (fun x W' hW' => learn1_any x _ e W' _ _ _ ((hW'.block _ (Array.getElem?_eq_some_iff.1 he).1).trans he) ((hW'.block _ (Array.getElem?_eq_some_iff.1 hq).1).trans hq))).mono ?_
      rintro r w' ⟨⟨i, rfl, hf⟩, hb'⟩
      refine ⟨⟨i, rfl, ?_⟩, hb'⟩
      have cong : leastF (keyC e (newC now e (canC c) act)) (fun _ => 0) S.c = leastF (sameC (newC now e (canC c) act)) (fun _ => 0) S.c := leastF_congrM fun y hy => keyC_same (s := newC now e (canC c) act) (canC_ok hc) (hok y hy)
      unfold Found0 at hf ⊢
      rw [cong] at hf
      exact hf
    have EV : Hid (∀ W, Below w.heap.size w W → Calls Try.prog 21 #[.pointer (some ⟨g, 0, none⟩)] W fun r w' => r = .returned (.tuple #[.agg (slotV (evictT R.cache S.c).2.1), .bool (evictT R.cache S.c).2.2]) ∧ TabTo B W w' g R { S with c := (evictT R.cache S.c).1 } v1 v2 v3) := by
      intro W hb
      exact evict_any B W g R S v1 v2 v3 (h.below hb) hn hr hd hok
    have LE : Hid (leastF (sameC (newC now e (canC c) act)) (fun _ => 0) S.c = none → learnT R.cache S.c (newC now e (canC c) act) = ((evictT R.cache S.c).1 ++ [newC now e (canC c) act], (evictT R.cache S.c).2.1, (evictT R.cache S.c).2.2, 0)) := fun hl => learnT_evict hr hl
    have LS : Hid (∀ A x D, leastF (sameC (newC now e (canC c) act)) (fun _ => 0) S.c = some (A, x, D) → learnT R.cache S.c (newC now e (canC c) act) = (A ++ newC now e (canC c) act :: D, zeroS, false, 0)) := fun A x D hl => learnT_same hr hl
    have EN : Hid ((evictT R.cache S.c).1.length ≤ 1000000) := by
      show _ ≤ _
      unfold evictT
      split
      · cases hl : leastF (fun _ => true) (·.used) S.c with
        | none => exact hn
        | some r => obtain ⟨A, x, D⟩ := r; have := (leastF_some hl).1; rw [this] at hn; simp at hn ⊢; omega
      · exact hn
    clear h hd hok hc
    go_enter Try.func5, Try.ntmps5
    go_wp2_with (first | ((with_reducible refine wl_gA rfl ?_); refine wl_allocS rfl rfl ?_; try rw [sz_alloc]); refine of_stopS ?_)
    unfold StopS
    rw [← hw0]
    clear hw0
    go_wp2_with (go_at_call 17; refine (TI.out _).mono ?_; rintro r w2 ⟨rfl, hw2⟩; rw [hw2]; clear hw2)
    refine region_cut (fun a a' w' => ∃ y29 y30 y31 y32 y33 y34 y35 q, a' = (((((((a.put (some 29) y29).put (some 30) y30).put (some 31) y31).put (some 32) y32).put (some 33) y33).put (some 34) y34).put (some 35) y35).put (some 13) (.pointer (some ⟨q, 0, none⟩)) ∧ w'.heap[q]? = some (.cells (slotV (newC now e (canC c) act)) 27 (0, 0)) ∧ Below w0.heap.size w0 w' ∧ w0.heap.size ≤ q) ?_ ?_
    · have ne9 : Nonempty (KeepT w.heap.size (.cells #[.int .i64 e] 3 (0, 0)) (w.heap.size + 1) (.cells (cv (pad c.1) (pad c.2)) 25 (0, 0))) := ⟨⟨w0, E0.out, C0.out⟩⟩
      have e9 : ∀ z : KeepT w.heap.size (.cells #[.int .i64 e] 3 (0, 0)) (w.heap.size + 1) (.cells (cv (pad c.1) (pad c.2)) 25 (0, 0)), z.world.cell? ⟨w.heap.size, 0, none⟩ = some (.int .i64 e) := fun z => by rw [cell_of_row _ _ _ _ _ _ z.k1]; rfl
      refine region_beginS (InK w.heap.size (.cells #[.int .i64 e] 3 (0, 0)) (w.heap.size + 1) (.cells (cv (pad c.1) (pad c.2)) 25 (0, 0))) 9 rfl (by kernel_rfl) ?_
      refine region_reads 0 2 7 rfl (by kernel_rfl) (by kernel_rfl) (by kernel_rfl) (by intro d v c a w h; exact absurd h.1 (by simp)) (InK.of (w := World.drew w0) E0.out C0.out) ?_
      simp only [List.drop_zero, List.take_succ_cons, List.take_zero]
      go_big_quiet_step (rfl)
      refine q_loadC rfl _ rfl (w.heap.size + 1) rfl c (by rintro w' ⟨z, rfl⟩; exact z.k2) ?_
      simp only [Act.put, List.setIfInBounds_toArray, List.set_cons_succ, List.set_cons_zero]
      refine wpQuiet_nil ?_
      refine region_reads 3 3 4 rfl (by kernel_rfl) (by kernel_rfl) (by kernel_rfl) (by intro d v c a w h; exact absurd h.1 (by simp)) (InK.of (w := World.drew w0) E0.out C0.out) ?_
      simp only [List.drop_succ_cons, List.drop_zero, List.take_succ_cons, List.take_zero]
      go_big_quiet_step (rfl)
      go_big_quiet_step (rfl)
      go_big_quiet_step (rfl)
      refine wpQuiet_nil ?_
      refine wpAnyH_all (rs := [2, 7]) (by kernel_rfl) (by decide) ?_
      intro i hi
      simp only [List.mem_cons, List.not_mem_nil, or_false] at hi
      rcases hi with rfl | rfl
      · skip
        refine wpOp_call rfl rfl 18 #[.tmp 30] (by intro b w; have hf := Try.func18; simp [go_sem]) #[.agg (cv (pad c.1) (pad c.2))] rfl (fun v w' => v = .agg (cv (pad (canC c).1) (pad (canC c).2)) ∧ Below (World.heap _).size _ w') ((CA.out _).mono fun e w' h => ⟨_, h.1, rfl, h.2⟩) (some 31) rfl ?_
        rintro v x1 ⟨rfl, hx1⟩
        have X1 : Below w0.heap.size w0 x1 := below_step ((Below.refl w0.heap.size w0).drew) (Below.size ((Below.refl w0.heap.size w0).drew)) hx1
        refine ⟨InK.of ((Below.block X1 _ SE.out).trans E0.out) ((Below.block X1 _ SC.out).trans C0.out), ?_⟩
        simp only [Act.put, List.setIfInBounds_toArray, List.set_cons_succ, List.set_cons_zero]
        refine wpAnyH_all (rs := [6, 7]) (by kernel_rfl) (by decide) ?_
        intro i hi
        simp only [List.mem_cons, List.not_mem_nil, or_false] at hi
        rcases hi with rfl | rfl
        · skip
          refine wpOp_val rfl rfl (.agg (slotV (newC now e (canC c) act))) (run_buildOpT rfl _ _ #[(0, .int .i64 1), (1, .int .i64 e), (4, .agg (cv (pad (canC c).1) (pad (canC c).2))), (5, .int .i64 act), (8, .int .i64 (timeT now)), (9, .int .i64 (timeT now))] (by simp only [List.map_toArray, List.map_cons, List.map_nil]; rfl) _ (build_fresh e act (timeT now) (canC c) _)) (some 35) rfl ?_
          refine ⟨InK.of ((Below.block X1 _ SE.out).trans E0.out) ((Below.block X1 _ SC.out).trans C0.out), ?_⟩
          simp only [Act.put, List.setIfInBounds_toArray, List.set_cons_succ, List.set_cons_zero]
          refine wpAnyH_all (rs := [7]) (by kernel_rfl) (by decide) ?_
          intro i hi
          obtain rfl := List.mem_singleton.1 hi
          refine wpOp_val rfl rfl _ (allocOp_run rfl _ _) (some 13) rfl ?_
          have Y1 : Below w0.heap.size w0 (World.alloc x1 (.cells (slotV zeroS) 27)) := Below.alloc X1 (Below.size X1) _
          refine ⟨InK.of ((Below.block Y1 _ SE.out).trans E0.out) ((Below.block Y1 _ SC.out).trans C0.out), ?_⟩
          simp only [Act.put, List.setIfInBounds_toArray, List.set_cons_succ, List.set_cons_zero]
          refine wpAnyH_all (rs := [8]) (by kernel_rfl) (by decide) ?_
          intro i hi
          obtain rfl := List.mem_singleton.1 hi
          refine wpOp_storeS rfl rfl _ _ rfl (World.heap x1).size (newC now e (canC c) act) zeroS rfl rfl (heap_new _ _ _ rfl) rfl ?_
          have X9 : Below w0.heap.size w0 _ := below_setRow Y1 (g := (World.heap x1).size) (Below.size X1) (slotV (newC now e (canC c) act))
          refine ⟨InK.of ((Below.block X9 _ SE.out).trans E0.out) ((Below.block X9 _ SC.out).trans C0.out), ?_⟩
          refine wpAnyH_done (by kernel_rfl) ?_ _
          exact ⟨rfl, _, _, _, _, _, _, _, (World.heap x1).size, rfl, setRow_heap _ _ _ _ _ _ (heap_new _ _ _ rfl), X9, Below.size X1⟩
        · skip
          refine wpOp_val rfl rfl _ (allocOp_run rfl _ _) (some 13) rfl ?_
          have Y1 : Below w0.heap.size w0 (World.alloc x1 (.cells (slotV zeroS) 27)) := Below.alloc X1 (Below.size X1) _
          refine ⟨InK.of ((Below.block Y1 _ SE.out).trans E0.out) ((Below.block Y1 _ SC.out).trans C0.out), ?_⟩
          simp only [Act.put, List.setIfInBounds_toArray, List.set_cons_succ, List.set_cons_zero]
          refine wpAnyH_all (rs := [6]) (by kernel_rfl) (by decide) ?_
          intro i hi
          obtain rfl := List.mem_singleton.1 hi
          refine wpOp_val rfl rfl (.agg (slotV (newC now e (canC c) act))) (run_buildOpT rfl _ _ #[(0, .int .i64 1), (1, .int .i64 e), (4, .agg (cv (pad (canC c).1) (pad (canC c).2))), (5, .int .i64 act), (8, .int .i64 (timeT now)), (9, .int .i64 (timeT now))] (by simp only [List.map_toArray, List.map_cons, List.map_nil]; rfl) _ (build_fresh e act (timeT now) (canC c) _)) (some 35) rfl ?_
          refine ⟨InK.of ((Below.block Y1 _ SE.out).trans E0.out) ((Below.block Y1 _ SC.out).trans C0.out), ?_⟩
          simp only [Act.put, List.setIfInBounds_toArray, List.set_cons_succ, List.set_cons_zero]
          refine wpAnyH_all (rs := [8]) (by kernel_rfl) (by decide) ?_
          intro i hi
          obtain rfl := List.mem_singleton.1 hi
          refine wpOp_storeS rfl rfl _ _ rfl (World.heap x1).size (newC now e (canC c) act) zeroS rfl rfl (heap_new _ _ _ rfl) rfl ?_
          have X9 : Below w0.heap.size w0 _ := below_setRow Y1 (g := (World.heap x1).size) (Below.size X1) (slotV (newC now e (canC c) act))
          refine ⟨InK.of ((Below.block X9 _ SE.out).trans E0.out) ((Below.block X9 _ SC.out).trans C0.out), ?_⟩
          refine wpAnyH_done (by kernel_rfl) ?_ _
          exact ⟨rfl, _, _, _, _, _, _, _, (World.heap x1).size, rfl, setRow_heap _ _ _ _ _ _ (heap_new _ _ _ rfl), X9, Below.size X1⟩
      · skip
        refine wpOp_val rfl rfl _ (allocOp_run rfl _ _) (some 13) rfl ?_
        have Y0 : Below w0.heap.size w0 (World.alloc (World.drew w0) (.cells (slotV zeroS) 27)) := Below.alloc ((Below.refl w0.heap.size w0).drew) (Nat.le_refl _) _
        refine ⟨InK.of ((Below.block Y0 _ SE.out).trans E0.out) ((Below.block Y0 _ SC.out).trans C0.out), ?_⟩
        simp only [Act.put, List.setIfInBounds_toArray, List.set_cons_succ, List.set_cons_zero]
        refine wpAnyH_all (rs := [2]) (by kernel_rfl) (by decide) ?_
        intro i hi
        obtain rfl := List.mem_singleton.1 hi
        refine wpOp_call rfl rfl 18 #[.tmp 30] (by intro b w; have hf := Try.func18; simp [go_sem]) #[.agg (cv (pad c.1) (pad c.2))] rfl (fun v w' => v = .agg (cv (pad (canC c).1) (pad (canC c).2)) ∧ Below (World.heap _).size _ w') ((CA.out _).mono fun e w' h => ⟨_, h.1, rfl, h.2⟩) (some 31) rfl ?_
        rintro v x2 ⟨rfl, hx2⟩
        have X2 : Below w0.heap.size w0 x2 := below_step Y0 (Below.size Y0) hx2
        refine ⟨InK.of ((Below.block X2 _ SE.out).trans E0.out) ((Below.block X2 _ SC.out).trans C0.out), ?_⟩
        simp only [Act.put, List.setIfInBounds_toArray, List.set_cons_succ, List.set_cons_zero]
        refine wpAnyH_all (rs := [6]) (by kernel_rfl) (by decide) ?_
        intro i hi
        obtain rfl := List.mem_singleton.1 hi
        refine wpOp_val rfl rfl (.agg (slotV (newC now e (canC c) act))) (run_buildOpT rfl _ _ #[(0, .int .i64 1), (1, .int .i64 e), (4, .agg (cv (pad (canC c).1) (pad (canC c).2))), (5, .int .i64 act), (8, .int .i64 (timeT now)), (9, .int .i64 (timeT now))] (by simp only [List.map_toArray, List.map_cons, List.map_nil]; rfl) _ (build_fresh e act (timeT now) (canC c) _)) (some 35) rfl ?_
        refine ⟨InK.of ((Below.block X2 _ SE.out).trans E0.out) ((Below.block X2 _ SC.out).trans C0.out), ?_⟩
        simp only [Act.put, List.setIfInBounds_toArray, List.set_cons_succ, List.set_cons_zero]
        refine wpAnyH_all (rs := [8]) (by kernel_rfl) (by decide) ?_
        intro i hi
        obtain rfl := List.mem_singleton.1 hi
        refine wpOp_storeS rfl rfl _ _ rfl (World.heap w0).size (newC now e (canC c) act) zeroS rfl rfl ((Below.block hx2 _ (by simp)).trans (heap_new _ _ _ rfl)) rfl ?_
        have X9 : Below w0.heap.size w0 _ := below_setRow X2 (g := (World.heap w0).size) (Nat.le_refl _) (slotV (newC now e (canC c) act))
        refine ⟨InK.of ((Below.block X9 _ SE.out).trans E0.out) ((Below.block X9 _ SC.out).trans C0.out), ?_⟩
        refine wpAnyH_done (by kernel_rfl) ?_ _
        exact ⟨rfl, _, _, _, _, _, _, _, (World.heap w0).size, rfl, setRow_heap _ _ _ _ _ _ ((Below.block hx2 _ (by simp)).trans (heap_new _ _ _ rfl)), X9, Nat.le_refl _⟩
    · rintro a' w1 ⟨y29, y30, y31, y32, y33, y34, y35, q, rfl, hq1, hb1, hq2⟩
      simp only [Act.put, List.setIfInBounds_toArray, List.set_cons_succ, List.set_cons_zero]
      have B1 : Hid (Below w.heap.size w w1) := below_step B0.out B0.out.size hb1
      have Q1 : Hid (w1.heap[q]? = some (.cells (slotV (newC now e (canC c) act)) 27 (0, 0))) := hq1
      have E1 : Hid (w1.heap[w.heap.size]? = some (.cells #[.int .i64 e] 3 (0, 0))) := (hb1.block _ SE.out).trans E0.out
      have Z1 : Hid (w1.heap[w.heap.size + 1 + 1]? = some (.cells (slotV zeroS) 27 (0, 0))) := (hb1.block _ (by have := SZ.out; omega)).trans Z0.out
      have QS : Hid (w.heap.size + 3 ≤ q) := by show _ ≤ _; have := SZ.out; omega
      have d5 := (HT.out.below B1.out).f.c5
      clear hq1 hb1 hq2
      have hix := IX.out w1 q B1.out E1.out Q1.out
      go_wp2_with (go_at_call 19; refine hix.mono ?_; rintro r w2 ⟨⟨i, rfl, hfi⟩, hb2⟩; refine of_stopS ?_)
      unfold StopS
      have B2 : Hid (Below w.heap.size w w2) := below_step B1.out B1.out.size hb2
      have Q2 : Hid (w2.heap[q]? = some (.cells (slotV (newC now e (canC c) act)) 27 (0, 0))) := (hb2.block _ (Array.getElem?_eq_some_iff.1 Q1.out).1).trans Q1.out
      have Z2 : Hid (w2.heap[w.heap.size + 1 + 1]? = some (.cells (slotV zeroS) 27 (0, 0))) := (hb2.block _ (Array.getElem?_eq_some_iff.1 Z1.out).1).trans Z1.out
      clear hb2 hix d5
      rcases hfi with ⟨rfl, hl⟩ | ⟨i, x, rfl, hi, hx, hl⟩
      · have EL : Hid _ := LE.out hl
        clear hl LE LS IX
        go_wp2_with (go_at_call 21; refine (EV.out w2 B2.out).mono ?_; rintro r w3 ⟨rfl, ht⟩; refine of_stopS ?_)
        unfold StopS
        obtain ⟨u1, u2, u3, ht1, ht2, ht3⟩ := ht
        have T3 : Hid (TabV B w3 g R { S with c := (evictT R.cache S.c).1 } u1 u2 u3) := ht1
        have K3 : Hid (Kept (footT g v1 v2 v3) w2 w3) := ht2
        have F3 : Hid (∀ k, footT g u1 u2 u3 k → footT g v1 v2 v3 k ∨ w2.heap.size ≤ k) := ht3
        have NQ : Hid (∀ k, w.heap.size ≤ k → k < w2.heap.size → ¬ footT g u1 u2 u3 k) := by
          intro k h1 h2 h3
          rcases F3.out k h3 with h4 | h4
          · have := (HT.out.foot_in k h4).2; omega
          · omega
        have NV : Hid (∀ k, w.heap.size ≤ k → ¬ footT g v1 v2 v3 k) := by
          intro k h1 h3
          have := (HT.out.foot_in k h3).2; omega
        have Q3 : Hid (w3.heap[q]? = some (.cells (slotV (newC now e (canC c) act)) 27 (0, 0))) := K3.out.heap Q2.out (NV.out q (by have := QS.out; omega))
        have Z3 : Hid (w3.heap[w.heap.size + 1 + 1]? = some (.cells (slotV zeroS) 27 (0, 0))) := K3.out.heap Z2.out (NV.out _ (by omega))
        have S2q : Hid (q < w2.heap.size) := (Array.getElem?_eq_some_iff.1 Q2.out).1
        have S2z : Hid (w.heap.size + 1 + 1 < w2.heap.size) := (Array.getElem?_eq_some_iff.1 Z2.out).1
        clear ht1 ht2 ht3
        obtain ⟨x, hxx⟩ : ∃ x, x = (evictT R.cache S.c).2.1 := ⟨_, rfl⟩
        obtain ⟨bb, hbb⟩ : ∃ bb, bb = (evictT R.cache S.c).2.2 := ⟨_, rfl⟩
        rw [← hxx, ← hbb] at EL ⊢
        clear hxx hbb
        obtain ⟨w4, hw4⟩ : ∃ w4, w4 = w3.alloc (.cells (slotV x) 27) := ⟨_, rfl⟩
        have X4 : Hid (w4.heap[w3.heap.size]? = some (.cells (slotV x) 27 (0, 0))) := by show _ = _; rw [hw4]; exact heap_new _ _ _ rfl
        have Q9 : Hid (w4.heap[q]? = some (.cells (slotV (newC now e (canC c) act)) 27 (0, 0))) := by show _ = _; rw [hw4]; exact heap_past _ _ _ _ Q3.out
        have Z4 : Hid (w4.heap[w.heap.size + 1 + 1]? = some (.cells (slotV zeroS) 27 (0, 0))) := by show _ = _; rw [hw4]; exact heap_past _ _ _ _ Z3.out
        have BW9 : Hid (Below w3.heap.size w3 w4) := by show Below _ _ _; rw [hw4]; exact (Below.refl _ _).alloc (Nat.le_refl _) _
        have QG9 : Hid (¬ footT g u1 u2 u3 q) := NQ.out q (by have := QS.out; omega) S2q.out
        have ZG9 : Hid (¬ footT g u1 u2 u3 (w.heap.size + 1 + 1)) := NQ.out _ (by omega) S2z.out
        have XG9 : Hid (¬ footT g u1 u2 u3 w3.heap.size) := by show ¬ _; intro h3; have := (T3.out.foot_in _ h3).2; omega
        have BB9 : Hid (B ≤ w3.heap.size) := by show _ ≤ _; have h9 := T3.out.hB; have h8 := (Array.getElem?_eq_some_iff.1 T3.out.blk).1; omega
        have TT9 : Hid (TabV B w4 g R { S with c := (evictT R.cache S.c).1 } u1 u2 u3) := T3.out.below BW9.out
        go_wp2_with (first | ((with_reducible refine wl_gA rfl ?_); refine wl_allocS rfl rfl ?_; try rw [sz_alloc]) | ((with_reducible refine wl_gS _ _ rfl ?_); refine wl_storeS rfl _ _ rfl w3.heap.size x zeroS rfl rfl (heap_new _ _ _ rfl) _ (setRow_new _ _ _ _ _ rfl) ?_))
        rw [← hw4]
        clear hw4
        refine region_cut (fun a a' w' => ∃ y59 y60 y61 y62 y63 y64 y65 y66 y67 y68 y69 y70 v' w9, a' = ((((((((((((a.put (some 59) y59).put (some 60) y60).put (some 61) y61).put (some 62) y62).put (some 63) y63).put (some 64) y64).put (some 65) y65).put (some 66) y66).put (some 67) y67).put (some 68) y68).put (some 69) y69).put (some 70) y70) ∧ w' = World.setCell w9 ⟨g, 5, none⟩ v' ∧ (TabTo B w3 (World.setCell w9 ⟨g, 5, none⟩ v') g R (setL { S with c := (evictT R.cache S.c).1 } 1 (bankL { S with c := (evictT R.cache S.c).1 } 1 ++ [(newC now e (canC c) act)])) u1 u2 u3 ∧ (World.setCell w9 ⟨g, 5, none⟩ v').heap[w3.heap.size]? = some (.cells (slotV x) 27 (0, 0)) ∧ (World.setCell w9 ⟨g, 5, none⟩ v').heap[w.heap.size + 1 + 1]? = some (.cells (slotV zeroS) 27 (0, 0)))) ?_ ?_
        · have ne9 : Nonempty (KeepO q (.cells (slotV (newC now e (canC c) act)) 27 (0, 0))) := ⟨⟨w4, Q9.out⟩⟩
          refine region_beginS (InO q (.cells (slotV (newC now e (canC c) act)) 27 (0, 0))) 13 rfl (by kernel_rfl) ?_
          refine region_reads 0 2 11 rfl (by kernel_rfl) (by kernel_rfl) (by kernel_rfl) (by intro d v c a w h; exact absurd h.1 (by simp)) (InO.of (w := World.drew w4) Q9.out) ?_
          simp only [List.drop_zero, List.take_succ_cons, List.take_zero]
          go_big_quiet_step (rfl)
          go_big_quiet_step (rfl)
          refine wpQuiet_nil ?_
          refine take_nil (i := 2) (some 61) rfl rfl _ rfl _ rfl rfl (by kernel_rfl) (by kernel_rfl) (by kernel_rfl) (InO.of (w := World.drew w4) Q9.out) ?_
          simp only [Act.put, List.setIfInBounds_toArray, List.set_cons_succ, List.set_cons_zero]
          refine region_reads 3 2 8 rfl (by kernel_rfl) (by kernel_rfl) (by kernel_rfl) (by intro d v c a w h; exact absurd h.1 (by simp)) (InO.of (w := World.drew w4) Q9.out) ?_
          simp only [List.drop_succ_cons, List.drop_zero, List.take_succ_cons, List.take_zero]
          go_big_quiet_step (rfl)
          go_big_quiet_step (rfl)
          refine wpQuiet_nil ?_
          refine region_reads 6 1 7 rfl (by kernel_rfl) (by kernel_rfl) (by kernel_rfl) (by intro d v c a w h; exact absurd h.1 (by simp)) (InO.of (w := World.drew w4) Q9.out) ?_
          simp only [List.drop_succ_cons, List.drop_zero, List.take_succ_cons, List.take_zero]
          refine qlE (E := SlotE) SlotOk rfl _ rfl q 0 rfl _ _ _ (slotV (newC now e (canC c) act)) (slotV_size _) (by rintro w' ⟨z, rfl⟩; exact z.k1) (own_cells _ _) ?_
          simp only [Act.put, List.setIfInBounds_toArray, List.set_cons_succ, List.set_cons_zero]
          refine wpQuiet_nil ?_
          refine take_nil (i := 9) (some 68) rfl rfl _ rfl _ rfl rfl (by kernel_rfl) (by kernel_rfl) (by kernel_rfl) (InO.of (w := World.drew w4) Q9.out) ?_
          simp only [Act.put, List.setIfInBounds_toArray, List.set_cons_succ, List.set_cons_zero]
          refine region_reads 10 1 5 rfl (by kernel_rfl) (by kernel_rfl) (by kernel_rfl) (by intro d v c a w h; exact absurd h.1 (by simp)) (InO.of (w := World.drew w4) Q9.out) ?_
          simp only [List.drop_succ_cons, List.drop_zero, List.take_succ_cons, List.take_zero]
          go_big_quiet_step (rfl)
          refine wpQuiet_nil ?_
          refine wpAnyH_all (rs := [5, 7]) (by kernel_rfl) (by decide) ?_
          intro i hi
          simp only [List.mem_cons, List.not_mem_nil, or_false] at hi
          rcases hi with rfl | rfl
          · refine wpOp_val rfl rfl (bankV u1 u2 u3 1) (load_sl rfl _ _ ⟨g, 5, none⟩ (bankV u1 u2 u3 1) rfl ((tabf_of (TabV.blk (TabV.below TT9.out (by first | exact (Below.refl _ _).drew | exact (Below.refl _ _).drew.alloc (Nat.le_refl _) _)))).bankCell 1 (by decide))) (some 64) rfl ?_
            refine ⟨InO.of (w := World.drew w4) Q9.out, ?_⟩
            simp only [Act.put, List.setIfInBounds_toArray, List.set_cons_succ, List.set_cons_zero]
            refine wpAnyH_all (rs := [7]) (by kernel_rfl) (by decide) ?_
            intro i hi
            obtain rfl := List.mem_singleton.1 hi
            refine wpOp_build1S rfl rfl _ rfl (newC now e (canC c) act) rfl (some 66) rfl ?_
            refine ⟨InO.of (heap_past _ _ _ _ Q9.out), ?_⟩
            simp only [Act.put, List.setIfInBounds_toArray, List.set_cons_succ, List.set_cons_zero]
            refine wpAnyH_all (rs := [8]) (by kernel_rfl) (by decide) ?_
            intro i hi
            obtain rfl := List.mem_singleton.1 hi
            refine wpOp_appendS rfl rfl _ _ rfl B (bankV u1 u2 u3 1) _ (newC now e (canC c) act) rfl (((TT9.out.below ((Below.refl _ _).drew.alloc (Nat.le_refl _) _)).bank 1)) _ 1 rfl (heap_new _ _ _ rfl) EN.out (by have h9 := BW9.out.size; have h8 := BB9.out; simp; omega) (some 67) rfl ?_
            intro v' w9 hown9 hgr9 hat9
            have F9 := app_fin (b := 1) (s := (newC now e (canC c) act)) T3.out (by decide) (by decide) BW9.out v' w9 hown9 hgr9 hat9
            obtain ⟨⟨o9, n9, c9, rfl⟩, ce9, fz9, bl9, tt9⟩ := F9
            refine ⟨InO.of (bl9 _ _ QG9.out Q9.out).1, ?_⟩
            simp only [Act.put, List.setIfInBounds_toArray, List.set_cons_succ, List.set_cons_zero]
            refine region_reads 11 1 1 rfl (by kernel_rfl) (by kernel_rfl) (by kernel_rfl) (by intro d v c a w h; exact absurd h.1 (by simp)) (InO.of (bl9 _ _ QG9.out Q9.out).1) ?_
            simp only [List.drop_succ_cons, List.drop_zero, List.take_succ_cons, List.take_zero]
            go_big_quiet_step (rfl)
            refine wpQuiet_nil ?_
            refine wpAnyH_all (rs := [12]) (by kernel_rfl) (by decide) ?_
            intro i hi
            obtain rfl := List.mem_singleton.1 hi
            refine wpOp_skip0 rfl rfl (store_sl rfl _ _ ⟨g, 5, none⟩ _ _ _ _ rfl rfl ce9 fz9) rfl ?_
            refine ⟨InO.of (bl9 _ _ QG9.out Q9.out).2, ?_⟩
            refine wpAnyH_done (by kernel_rfl) ?_ _
            exact ⟨rfl, _, _, _, _, _, _, _, _, _, _, _, _, _, w9, rfl, rfl, tt9, (bl9 _ _ XG9.out X4.out).2, (bl9 _ _ ZG9.out Z4.out).2⟩
          · refine wpOp_build1S rfl rfl _ rfl (newC now e (canC c) act) rfl (some 66) rfl ?_
            refine ⟨InO.of (heap_past _ _ _ _ Q9.out), ?_⟩
            simp only [Act.put, List.setIfInBounds_toArray, List.set_cons_succ, List.set_cons_zero]
            refine wpAnyH_all (rs := [5]) (by kernel_rfl) (by decide) ?_
            intro i hi
            obtain rfl := List.mem_singleton.1 hi
            refine wpOp_val rfl rfl (bankV u1 u2 u3 1) (load_sl rfl _ _ ⟨g, 5, none⟩ (bankV u1 u2 u3 1) rfl ((tabf_of (TabV.blk (TabV.below TT9.out (by first | exact (Below.refl _ _).drew | exact (Below.refl _ _).drew.alloc (Nat.le_refl _) _)))).bankCell 1 (by decide))) (some 64) rfl ?_
            refine ⟨InO.of (heap_past _ _ _ _ Q9.out), ?_⟩
            simp only [Act.put, List.setIfInBounds_toArray, List.set_cons_succ, List.set_cons_zero]
            refine wpAnyH_all (rs := [8]) (by kernel_rfl) (by decide) ?_
            intro i hi
            obtain rfl := List.mem_singleton.1 hi
            refine wpOp_appendS rfl rfl _ _ rfl B (bankV u1 u2 u3 1) _ (newC now e (canC c) act) rfl (((TT9.out.below ((Below.refl _ _).drew.alloc (Nat.le_refl _) _)).bank 1)) _ 1 rfl (heap_new _ _ _ rfl) EN.out (by have h9 := BW9.out.size; have h8 := BB9.out; simp; omega) (some 67) rfl ?_
            intro v' w9 hown9 hgr9 hat9
            have F9 := app_fin (b := 1) (s := (newC now e (canC c) act)) T3.out (by decide) (by decide) BW9.out v' w9 hown9 hgr9 hat9
            obtain ⟨⟨o9, n9, c9, rfl⟩, ce9, fz9, bl9, tt9⟩ := F9
            refine ⟨InO.of (bl9 _ _ QG9.out Q9.out).1, ?_⟩
            simp only [Act.put, List.setIfInBounds_toArray, List.set_cons_succ, List.set_cons_zero]
            refine region_reads 11 1 1 rfl (by kernel_rfl) (by kernel_rfl) (by kernel_rfl) (by intro d v c a w h; exact absurd h.1 (by simp)) (InO.of (bl9 _ _ QG9.out Q9.out).1) ?_
            simp only [List.drop_succ_cons, List.drop_zero, List.take_succ_cons, List.take_zero]
            go_big_quiet_step (rfl)
            refine wpQuiet_nil ?_
            refine wpAnyH_all (rs := [12]) (by kernel_rfl) (by decide) ?_
            intro i hi
            obtain rfl := List.mem_singleton.1 hi
            refine wpOp_skip0 rfl rfl (store_sl rfl _ _ ⟨g, 5, none⟩ _ _ _ _ rfl rfl ce9 fz9) rfl ?_
            refine ⟨InO.of (bl9 _ _ QG9.out Q9.out).2, ?_⟩
            refine wpAnyH_done (by kernel_rfl) ?_ _
            exact ⟨rfl, _, _, _, _, _, _, _, _, _, _, _, _, _, w9, rfl, rfl, tt9, (bl9 _ _ XG9.out X4.out).2, (bl9 _ _ ZG9.out Z4.out).2⟩
        · rintro a' w' ⟨y59, y60, y61, y62, y63, y64, y65, y66, y67, y68, y69, y70, v', w9, rfl, rfl, tt9, x9, z9⟩
          have T9 : Hid _ := tt9
          clear tt9
          simp only [Act.put, List.setIfInBounds_toArray, List.set_cons_succ, List.set_cons_zero]
          have X9 : Hid _ := x9
          have Z9 : Hid _ := z9
          clear x9 z9
          go_wp2_with (first | ((with_reducible refine wl_gL _ rfl ?_); refine wl_loadS rfl _ rfl w3.heap.size 0 rfl x (ld_own X9.out) ?_) | ((with_reducible refine wl_gS _ _ rfl ?_); refine wl_storeS rfl _ _ rfl (w.heap.size + 1 + 1) x zeroS rfl rfl Z9.out _ rfl ?_))
          refine ret3S (p := 10) (u := 11) (u' := 12) rfl rfl (w.heap.size + 1 + 1) rfl x (setRow_heap _ _ _ _ _ _ Z9.out) _ _ rfl rfl ?_
          rw [EL.out]
          exact ⟨rfl, (TabTo.step K3.out F3.out T9.out).loc HT.out B2.out (kept_setRow _ _ _) fun k e' => by unfold isB at e'; have := S2z.out; omega⟩
      · have EL : Hid (learnT R.cache S.c (newC now e (canC c) act) = (S.c.set i (newC now e (canC c) act), zeroS, false, 0)) := by show _ = _; rw [LS.out _ _ _ hl, set_split _ hi]
        have T2 : Hid (TabV B w2 g R S v1 v2 v3) := HT.out.below B2.out
        obtain ⟨gb, nb, cap, ev, eo, _⟩ := T2.out.o1.slot (A := S.c.take i) (x := x) (D := S.c.drop (i + 1)) (leastF_some hl).1
        have hlen : nb = S.c.length := by
          obtain ⟨o, cap', e', _⟩ := T2.out.o1.slice
          rw [ev] at e'
          simp only [Value.slice.injEq] at e'
          exact e'.2.1
        have o1 := T2.out.o1
        rw [ev] at o1
        obtain ⟨cur, hcur, hfit, hst⟩ := o1.store i hi (newC now e (canC c) act)
        have CU : Hid (w2.heap[gb]? = some (.cells cur 27 (0, 0))) := hcur
        have HST : Hid _ := hst
        have hin : (i : Int) < (nb : Int) := by omega
        have G2 : Hid (w2.heap[g]? = some (.cells (tabV R (.slice (some ⟨gb, 0, none⟩) nb cap) v2 v3) 52 (0, 0))) := by have h9 := T2.out.blk; rw [ev] at h9; exact h9
        have NGB : Hid (gb ≠ g) := by show _ ≠ _; intro h9; subst h9; rw [G2.out] at hcur; simp only [Option.some.injEq, Obj.cells.injEq] at hcur; exact absurd hcur.2.1 (by decide)
        have NQB : Hid (gb ≠ q) := by show _ ≠ _; intro h9; have h8 := (HT.out.o1.lt gb eo).2; have := QS.out; omega
        have NZB : Hid (gb ≠ w.heap.size + 1 + 1) := by show _ ≠ _; intro h9; have h8 := (HT.out.o1.lt gb eo).2; omega
        have SZ2 : Hid (w.heap.size + 1 + 1 < w2.heap.size) := (Array.getElem?_eq_some_iff.1 Z2.out).1
        have ROW : Hid (∀ w6, Kept (isB gb) w2 w6 → SlotsAt B w6 (.slice (some ⟨gb, 0, none⟩) nb cap) (S.c.set i (newC now e (canC c) act)) → TabTo B w2 w6 g R { S with c := S.c.set i (newC now e (canC c) act) } v1 v2 v3) := by
          intro w6 hk hs
          have key : ∀ k, isB gb k → rowX (bankV v1 v2 v3 1) k := fun k e' => by unfold isB at e'; unfold rowX; rw [e']; exact eo
          exact T2.out.row 1 (.inl rfl) _ (hk.mono fun k _ e' => key k e') (by show SlotsAt _ _ v1 _; rw [ev]; exact hs)
        have hlc : nb ≤ 1000000 := by omega
        clear hl hcur hst LE LS IX EV ev eo o1 T2 hlen hi hx
        clear hn
        go_wp2_with fail
        refine region_cutQ ?_
        have ne9 : Nonempty (KeepT g (.cells (tabV R (.slice (some ⟨gb, 0, none⟩) nb cap) v2 v3) 52 (0, 0)) q (.cells (slotV (newC now e (canC c) act)) 27 (0, 0))) := ⟨⟨w2, G2.out, Q2.out⟩⟩
        have e9 : ∀ z : KeepT g (.cells (tabV R (.slice (some ⟨gb, 0, none⟩) nb cap) v2 v3) 52 (0, 0)) q (.cells (slotV (newC now e (canC c) act)) 27 (0, 0)), z.world.cell? ⟨g, 5, none⟩ = some (.slice (some ⟨gb, 0, none⟩) nb cap) := fun z => (tabf_of z.k1).c5
        refine region_beginS (InK g (.cells (tabV R (.slice (some ⟨gb, 0, none⟩) nb cap) v2 v3) 52 (0, 0)) q (.cells (slotV (newC now e (canC c) act)) 27 (0, 0))) 9 rfl (by kernel_rfl) ?_
        refine region_reads 0 1 8 rfl (by kernel_rfl) (by kernel_rfl) (by kernel_rfl) (by intro d v c a w h; exact absurd h.1 (by simp)) (InK.of (w := World.drew w2) G2.out Q2.out) ?_
        simp only [List.drop_zero, List.take_succ_cons, List.take_zero]
        go_big_quiet_step (rfl)
        refine wpQuiet_nil ?_
        refine take_nil (i := 1) (some 46) rfl rfl _ rfl _ rfl rfl (by kernel_rfl) (by kernel_rfl) (by kernel_rfl) (InK.of (w := World.drew w2) G2.out Q2.out) ?_
        simp only [Act.put, List.setIfInBounds_toArray, List.set_cons_succ, List.set_cons_zero]
        refine region_reads 2 6 1 rfl (by kernel_rfl) (by kernel_rfl) (by kernel_rfl) (by intro d v c a w h; exact absurd h.1 (by simp)) (InK.of (w := World.drew w2) G2.out Q2.out) ?_
        simp only [List.drop_succ_cons, List.drop_zero, List.take_succ_cons, List.take_zero]
        go_big_quiet_step (rfl)
        go_big_quiet_step (rfl)
        go_big_quiet_step (rfl)
        go_big_quiet_step (rfl)
        refine qlE (E := SlotE) SlotOk rfl _ rfl q 0 rfl _ _ _ (slotV (newC now e (canC c) act)) (slotV_size _) (by rintro w' ⟨z, rfl⟩; exact z.k2) (own_cells _ _) ?_
        simp only [Act.put, List.setIfInBounds_toArray, List.set_cons_succ, List.set_cons_zero]
        go_big_quiet_step (rfl)
        refine wpQuiet_nil ?_
        refine wpAnyH_all (rs := [8]) (by kernel_rfl) (by decide) ?_
        intro i9 hi9
        obtain rfl := List.mem_singleton.1 hi9
        refine wpOp_storeAtS rfl rfl _ _ rfl gb (i * 36) (newC now e (canC c) act) rfl rfl cur 27 CU.out hfit rfl ?_
        obtain ⟨w6, hw6⟩ : ∃ w6, w6 = (World.drew w2).setRow gb (cur.toList.take (i * 36) ++ (slotV (newC now e (canC c) act)).toList ++ cur.toList.drop (i * 36 + 36)).toArray := ⟨_, rfl⟩
        have K6 : Hid (Kept (isB gb) w2 w6) := by show Kept _ _ _; rw [hw6]; exact (Kept.of_below (X := isB gb) (Below.refl _ _).drew).trans (kept_setRow _ _ _) fun k hk => .inl hk
        have T6 : Hid (TabTo B w2 w6 g R { S with c := S.c.set i (newC now e (canC c) act) } v1 v2 v3) := ROW.out w6 K6.out (HST.out w6 (by rw [hw6]; exact setRow_heap _ _ _ _ _ _ CU.out))
        have Z6 : Hid (w6.heap[w.heap.size + 1 + 1]? = some (.cells (slotV zeroS) 27 (0, 0))) := K6.out.heap Z2.out fun e' => NZB.out (by unfold isB at e'; exact e'.symm)
        rw [← hw6]
        refine ⟨InK.of (K6.out.heap G2.out fun e' => NGB.out (by unfold isB at e'; exact e'.symm)) (K6.out.heap Q2.out fun e' => NQB.out (by unfold isB at e'; exact e'.symm)), ?_⟩
        clear hw6
        refine wpAnyH_done (by kernel_rfl) ?_ _
        refine ⟨rfl, ?_⟩
        go_wp2_with (first | ((with_reducible refine wl_gZ rfl ?_); refine wl_buildS rfl rfl ?_) | ((with_reducible refine wl_gS _ _ rfl ?_); refine wl_storeS rfl _ _ rfl (w.heap.size + 1 + 1) zeroS zeroS rfl rfl Z6.out _ rfl ?_))
        refine ret3S (p := 10) (u := 11) (u' := 12) rfl rfl (w.heap.size + 1 + 1) rfl zeroS (setRow_heap _ _ _ _ _ _ Z6.out) _ _ rfl rfl ?_
        rw [EL.out]
        exact ⟨rfl, T6.out.loc HT.out B2.out (kept_setRow _ _ _) fun k e' => by unfold isB at e'; have := SZ2.out; omega⟩
end Go.Proofs.Ytojhckjdkafpmab
namespace Go.Proofs.Ytojhckjdkafpmab
open Go Go.RowKit
set_option maxRecDepth 20000

def OkR (c a p i h : Int) : Prop := (0 ≤ c ∧ c ≤ 2048) ∧ (0 ≤ a ∧ a ≤ 2048) ∧ (0 ≤ p ∧ p ≤ 2048) ∧ (0 ≤ i ∧ i ≤ 1099511627776) ∧ (0 ≤ h ∧ h ≤ 1099511627776)
def rmOf (c a p i h : Int) : Rm := ⟨c.toNat, a.toNat, p.toNat, i, h⟩
def newV (x1 x2 x3 i h : Int) : Array Value := #[.int .i64 0, .int .i64 x1, .int .i64 x2, .int .i64 x3, .slice none 0 0, .slice none 0 0, .slice none 0 0, .slice none 0 0, .int .i64 i, .int .i64 h]
theorem new_tab {w : World} {c a p i h : Int} (hr : OkR c a p i h) {w' : World} (g : Nat) (hg : w.heap.size ≤ g) (hc : w'.heap[g]? = some (.cells (newV c a p i h) 52 (0, 0))) : TabV w.heap.size w' g (rmOf c a p i h) ⟨[], [], []⟩ (.slice none 0 0) (.slice none 0 0) (.slice none 0 0) := by
  obtain ⟨h1, h2, h3, _, _⟩ := hr
  refine ⟨?_, SlotsAt.nil _ _, SlotsAt.nil _ _, SlotsAt.nil _ _, .inl rfl, .inl rfl, .inl rfl, hg⟩
  unfold tabV rmOf
  simp only [Int.toNat_of_nonneg h1.1, Int.toNat_of_nonneg h2.1, Int.toNat_of_nonneg h3.1]
  exact hc
/-- A number of a new table is stored, whichever comes first. -/
theorem newV_set {x1 x2 x3 i h z : Int} (j : Nat) (hj : j = 1 ∨ j = 2 ∨ j = 3) : (newV x1 x2 x3 i h).setIfInBounds j (.int .i64 z) = newV (if j = 1 then z else x1) (if j = 2 then z else x2) (if j = 3 then z else x3) i h := by
  rcases hj with rfl | rfl | rfl <;> rfl
theorem store_int {o : Oper} {x y : Operand} (ho : o.op = .store 3 x y) (a : Act) (W : World) (ad : Addr) (z old : Int) (hx : a.eval x = .pointer (some ad)) (hy : a.eval y = .int .i64 z) (hc : W.cell? ad = some (.int .i64 old)) (hf : W.frozen? ad = false) : (execOp a.eval o).run Try.prog W = .ok .skip (W.setCell ad (.int .i64 z)) := by
  have hz : ∀ w, (sizeOf 3).run Try.prog w = .ok 1 w := fun w => by kernel_rfl
  unfold execOp
  simp only [ho, hx, hy]
  simp [go_sem, hz, hc, hf, storeVar, storeCells, Instr.storeAt, Instr.sureAddr]
set_option maxHeartbeats 8000000 in
theorem new_yes (c a p i h : Int) (hr : OkR c a p i h) (w : World) :
    Calls Try.prog 14 #[.int .i64 c, .int .i64 a, .int .i64 p, .int .i64 i, .int .i64 h] w fun e w' => (∃ g, e = .returned (.tuple #[.pointer (some ⟨g, 0, none⟩), .int .i64 0]) ∧ TabV w.heap.size w' g (rmOf c a p i h) ⟨[], [], []⟩ (.slice none 0 0) (.slice none 0 0) (.slice none 0 0)) ∧ Below w.heap.size w w' := by
  have WI : Hid (∀ n top W, 0 ≤ n ∧ n ≤ top → Calls Try.prog 33 #[.int .i64 n, .int .i64 top] W fun e w' => e = .returned (.bool true) ∧ w' = W) := by
    intro n top W hn
    have h9 := within_any n top W
    rw [decide_eq_true hn] at h9
    exact h9
  have HR : Hid (OkR c a p i h) := hr
  have FI : Hid (∀ w', w'.heap[w.heap.size]? = some (.cells (newV c a p i h) 52 (0, 0)) → TabV w.heap.size w' w.heap.size (rmOf c a p i h) ⟨[], [], []⟩ (.slice none 0 0) (.slice none 0 0) (.slice none 0 0)) := fun w' h9 => new_tab hr _ (Nat.le_refl _) h9
  clear hr
  go_enter Try.func14, Try.ntmps14
  go_wp2_with (go_at_call 33; refine (WI.out _ _ _ (by first | exact HR.out.1 | exact HR.out.2.1 | exact HR.out.2.2.1 | exact HR.out.2.2.2.1 | exact HR.out.2.2.2.2)).mono ?_; rintro r w2 ⟨rfl, hw2⟩; rw [hw2]; clear hw2)
  obtain ⟨w5, hw5⟩ : ∃ w5, w5 = w.alloc (.cells #[.int .i64 0, .int .i64 0, .int .i64 0, .int .i64 0, .slice none 0 0, .slice none 0 0, .slice none 0 0, .slice none 0 0, .int .i64 i, .int .i64 h] 52) := ⟨_, rfl⟩
  have H0 : w5.heap[w.heap.size]? = some (.cells (newV 0 0 0 i h) 52 (0, 0)) := by rw [hw5]; exact heap_new _ _ _ rfl
  have BW : Hid (Below w.heap.size w w5) := by show Below _ _ _; rw [hw5]; exact (Below.refl _ _).alloc (Nat.le_refl _) _
  rw [← hw5]
  clear hw5
  refine region_cutQ ?_
  refine region_beginS (fun _ => True) 18 rfl (by kernel_rfl) ?_
  refine region_reads 0 6 12 rfl (by kernel_rfl) (by kernel_rfl) (by kernel_rfl) (by intro d v c a w h; exact absurd h.1 (by simp)) trivial ?_
  simp only [List.drop_zero, List.take_succ_cons, List.take_zero]
  go_big_quiet_step (rfl)
  go_big_quiet_step (rfl)
  go_big_quiet_step (rfl)
  go_big_quiet_step (rfl)
  go_big_quiet_step (rfl)
  go_big_quiet_step (rfl)
  refine wpQuiet_nil ?_
  refine take_nil (i := 6) (some 46) rfl rfl _ rfl _ rfl rfl (by kernel_rfl) (by kernel_rfl) (by kernel_rfl) trivial ?_
  simp only [Act.put, List.setIfInBounds_toArray, List.set_cons_succ, List.set_cons_zero]
  refine region_reads 7 2 9 rfl (by kernel_rfl) (by kernel_rfl) (by kernel_rfl) (by intro d v c a w h; exact absurd h.1 (by simp)) trivial ?_
  simp only [List.drop_succ_cons, List.drop_zero, List.take_succ_cons, List.take_zero]
  go_big_quiet_step (rfl)
  go_big_quiet_step (rfl)
  refine wpQuiet_nil ?_
  refine take_nil (i := 10) (some 49) rfl rfl _ rfl _ rfl rfl (by kernel_rfl) (by kernel_rfl) (by kernel_rfl) trivial ?_
  simp only [Act.put, List.setIfInBounds_toArray, List.set_cons_succ, List.set_cons_zero]
  refine region_reads 11 1 7 rfl (by kernel_rfl) (by kernel_rfl) (by kernel_rfl) (by intro d v c a w h; exact absurd h.1 (by simp)) trivial ?_
  simp only [List.drop_succ_cons, List.drop_zero, List.take_succ_cons, List.take_zero]
  go_big_quiet_step (rfl)
  refine wpQuiet_nil ?_
  refine take_nil (i := 14) (some 52) rfl rfl _ rfl _ rfl rfl (by kernel_rfl) (by kernel_rfl) (by kernel_rfl) trivial ?_
  simp only [Act.put, List.setIfInBounds_toArray, List.set_cons_succ, List.set_cons_zero]
  refine region_reads 15 1 5 rfl (by kernel_rfl) (by kernel_rfl) (by kernel_rfl) (by intro d v c a w h; exact absurd h.1 (by simp)) trivial ?_
  simp only [List.drop_succ_cons, List.drop_zero, List.take_succ_cons, List.take_zero]
  go_big_quiet_step (rfl)
  refine wpQuiet_nil ?_
  have H0' : w5.drew.heap[w.heap.size]? = some (.cells (newV 0 0 0 i h) 52 (0, 0)) := H0
  refine wpAnyH_all (rs := [9]) (by kernel_rfl) (by decide) ?_
  intro i9 hi9
  obtain rfl := List.mem_singleton.1 hi9
  refine wpOp_skip0 rfl rfl (store_int rfl _ _ ⟨w.heap.size, 1, none⟩ c 0 rfl rfl (by rw [cell_of_row _ _ _ _ _ _ H0']; rfl) (by simp [World.frozen?, H0'])) rfl ?_
  refine ⟨trivial, ?_⟩
  have H1 := heap_setCell_same _ w.heap.size 1 _ _ (.int .i64 c) H0'
  rw [newV_set 1 (.inl rfl)] at H1
  refine region_reads 12 1 3 rfl (by kernel_rfl) (by kernel_rfl) (by kernel_rfl) (by intro d v c a w h; exact absurd h.1 (by simp)) trivial ?_
  simp only [List.drop_succ_cons, List.drop_zero, List.take_succ_cons, List.take_zero]
  go_big_quiet_step (rfl)
  refine wpQuiet_nil ?_
  refine wpAnyH_all (rs := [13]) (by kernel_rfl) (by decide) ?_
  intro i9 hi9
  obtain rfl := List.mem_singleton.1 hi9
  refine wpOp_skip0 rfl rfl (store_int rfl _ _ ⟨w.heap.size, 2, none⟩ a 0 rfl rfl (by rw [cell_of_row _ _ _ _ _ _ H1]; rfl) (by simp [World.frozen?, H1])) rfl ?_
  refine ⟨trivial, ?_⟩
  have H2 := heap_setCell_same _ w.heap.size 2 _ _ (.int .i64 a) H1
  rw [newV_set 2 (.inr (.inl rfl))] at H2
  refine region_reads 16 1 1 rfl (by kernel_rfl) (by kernel_rfl) (by kernel_rfl) (by intro d v c a w h; exact absurd h.1 (by simp)) trivial ?_
  simp only [List.drop_succ_cons, List.drop_zero, List.take_succ_cons, List.take_zero]
  go_big_quiet_step (rfl)
  refine wpQuiet_nil ?_
  refine wpAnyH_all (rs := [17]) (by kernel_rfl) (by decide) ?_
  intro i9 hi9
  obtain rfl := List.mem_singleton.1 hi9
  refine wpOp_skip0 rfl rfl (store_int rfl _ _ ⟨w.heap.size, 3, none⟩ p 0 rfl rfl (by rw [cell_of_row _ _ _ _ _ _ H2]; rfl) (by simp [World.frozen?, H2])) rfl ?_
  refine ⟨trivial, ?_⟩
  have H3 := heap_setCell_same _ w.heap.size 3 _ _ (.int .i64 p) H2
  rw [newV_set 3 (.inr (.inr rfl))] at H3
  refine wpAnyH_done (by kernel_rfl) ?_ _
  refine ⟨rfl, ?_⟩
  have HH3 : Hid _ := H3
  clear H0 H0' H1 H2 H3
  go_wp2_with fail
  go_ret2
  refine ⟨⟨_, rfl, FI.out _ HH3.out⟩, ?_⟩
  exact ((BW.out.drew.setCell (Nat.le_refl _) _).setCell (Nat.le_refl _) _).setCell (Nat.le_refl _) _
end Go.Proofs.Ytojhckjdkafpmab
namespace Go.Proofs.Ytojhckjdkafpmab
open Go Go.RowKit
set_option maxRecDepth 20000

theorem Calls.later_sameT {P : Program} {f : FuncId} {args : Array Value} {W : World} {u : Later W} {v : Value}
    (h : Calls P f args u.world fun e w' => e = .returned v ∧ w' = u.world) : Calls P f args u.world fun e w'' => e = .returned v ∧ ∃ u' : Later W, w'' = u'.world :=
  h.mono fun _ _ ⟨he, hb⟩ => ⟨he, u, hb⟩

set_option maxHeartbeats 400000 in
def overB (n top : Int) : Bool := decide (top ≠ 0) && decide (top ≤ n)
/-- Too old, as the machine reckons it. -/
def oldW (idle hard nw : Int) (x : Slt) : Bool := overB (wrap64 (nw - x.used)) idle || overB (wrap64 (nw - x.born)) hard
theorem oldW_eq {idle hard now : Int} {x : Slt} (h1 : 0 ≤ x.used) (h2 : x.used ≤ MAXT) (h3 : 0 ≤ x.born) (h4 : x.born ≤ MAXT) : oldW idle hard (timeT now) x = oldS idle hard now x := by
  have ht := timeT_in now
  unfold MAXT at h2 h4 ht
  unfold oldW oldS overB
  have e1 : wrap64 (timeT now - x.used) = timeT now - x.used := by unfold wrap64; omega
  have e2 : wrap64 (timeT now - x.born) = timeT now - x.born := by unfold wrap64; omega
  rw [e1, e2]
set_option maxHeartbeats 8000000 in
theorem tick1_any (x : Slt) (nw : Int) (w : World) (p q g : Nat) (R : Rm) (v1 v2 v3 : Value) (tp tq : TypeId) (hp : w.heap[p]? = some (.cells #[.int .i64 nw] tp (0, 0))) (hq : w.heap[q]? = some (.cells #[.pointer (some ⟨g, 0, none⟩)] tq (0, 0))) (hg : w.heap[g]? = some (.cells (tabV R v1 v2 v3) 52 (0, 0))) :
    Calls Try.prog 31 #[.agg (slotV x), .pointer (some ⟨p, 0, none⟩), .pointer (some ⟨q, 0, none⟩)] w fun r w' => r = .returned (.bool (oldW R.idle R.hard nw x)) ∧ Below w.heap.size w w' := by
  have c1 := (new_slf w x 27).c34
  have c2 := (new_slf w x 27).c33
  have c3 : (w.alloc (.cells (slotV x) 27)).cell? ⟨p, 0, none⟩ = some (.int .i64 nw) := by rw [cell_of_row _ _ _ _ _ _ (heap_past w (.cells (slotV x) 27) _ _ hp)]; rfl
  have c4 : (w.alloc (.cells (slotV x) 27)).cell? ⟨q, 0, none⟩ = some (.pointer (some ⟨g, 0, none⟩)) := by rw [cell_of_row _ _ _ _ _ _ (heap_past w (.cells (slotV x) 27) _ _ hq)]; rfl
  have hf := tabf_of (heap_past w (.cells (slotV x) 27) _ _ hg)
  have c5 := hf.c8
  have c6 := hf.c9
  have OV : Hid (∀ n top W, Calls Try.prog 32 #[.int .i64 n, .int .i64 top] W fun e w' => e = .returned (.bool (overB n top)) ∧ w' = W) := over_any
  have BW : Hid (∀ nq, Below w.heap.size w ((w.alloc (.cells (slotV x) 27)).drewN nq)) := fun nq => below_step ((Below.refl _ _).alloc (Nat.le_refl _) _) (by simp) (below_drewT _ _)
  have HR : Hid (oldW R.idle R.hard nw x = (overB (wrap64 (nw - x.used)) R.idle || overB (wrap64 (nw - x.born)) R.hard)) := rfl
  rw [HR.out]
  have hb0 := heap_new w (.cells (slotV x) 27) _ rfl
  have d1 : ∀ u : Later (w.alloc (.cells (slotV x) 27)), u.world.cell? ⟨w.heap.size, 34, none⟩ = some (.int .i64 x.used) := fun u => by have := (later_slf hb0 (new_slf w x 27) u).c34; rw [Nat.zero_add] at this; exact this
  have d2 : ∀ u : Later (w.alloc (.cells (slotV x) 27)), u.world.cell? ⟨w.heap.size, 33, none⟩ = some (.int .i64 x.born) := fun u => by have := (later_slf hb0 (new_slf w x 27) u).c33; rw [Nat.zero_add] at this; exact this
  have d3 := later_cell (W := w.alloc (.cells (slotV x) 27)) (k := 0) (v := .int .i64 nw) (heap_past w (.cells (slotV x) 27) _ _ hp) rfl
  have d4 := later_cell (W := w.alloc (.cells (slotV x) 27)) (k := 0) (v := .pointer (some ⟨g, 0, none⟩)) (heap_past w (.cells (slotV x) 27) _ _ hq) rfl
  have d5 := later_cell (W := w.alloc (.cells (slotV x) 27)) (k := 8) (v := .int .i64 R.idle) (heap_past w (.cells (slotV x) 27) _ _ hg) rfl
  have d6 := later_cell (W := w.alloc (.cells (slotV x) 27)) (k := 9) (v := .int .i64 R.hard) (heap_past w (.cells (slotV x) 27) _ _ hg) rfl
  clear HR hp hq hg hf c1 c2 c3 c4 c5 c6 hb0 BW
  generalize x.used = a1 at d1 ⊢
  generalize x.born = a2 at d2 ⊢
  generalize R.idle = i1 at d5 ⊢
  generalize R.hard = i2 at d6 ⊢
  have ne1 := Later.ne (w.alloc (.cells (slotV x) 27))
  rcases Bool.eq_false_or_eq_true (overB (wrap64 (nw - a1)) i1) with h1 | h1
  · have H1 : Hid (overB (wrap64 (nw - a1)) i1 = true) := h1
    have O1 : Hid (∀ W, Calls Try.prog 32 #[.int .i64 (wrap64 (nw - a1)), .int .i64 i1] W fun e w' => e = .returned (.bool true) ∧ w' = W) := by intro W; have h2 := OV.out (wrap64 (nw - a1)) i1 W; rw [h1] at h2; exact h2
    clear h1
    go_enter Try.func31, Try.ntmps31
    go_wp2_with fail
    refine wp_region_later (by kernel_rfl) (by kernel_rfl) ?_
    go_big_quiet_step (rfl)
    go_big_quiet_step (rfl)
    go_big_quiet_step (rfl)
    go_big_quiet_step (rfl)
    go_big_quiet_step (rfl)
    refine q_nilT rfl _ rfl _ rfl ?_
    simp only [Act.put, List.setIfInBounds_toArray, List.set_cons_succ, List.set_cons_zero]
    go_big_quiet_step (rfl)
    go_big_quiet_step (rfl)
    go_big_quiet_want; go_big_quiet_op
    refine ⟨_, fun u => Calls.later_sameT (O1.out u.world), ?_⟩
    go_big_quiet_on
    go_big_quiet_step (rfl)
    go_big_quiet_step (rfl)
    go_big_quiet_step (rfl)
    go_big_quiet_step (rfl)
    go_big_quiet_step (rfl)
    go_big_quiet_step (rfl)
    go_big_quiet_step (rfl)
    go_big_quiet_step (rfl)
    go_big_quiet_step (rfl)
    go_big_quiet_step (rfl)
    go_big_quiet_step (rfl)
    go_big_quiet_step (rfl)
    refine wpQuiet_nil ?_
    rintro w' ⟨u, rfl⟩
    go_wp2_with fail
    go_ret
    exact ⟨by rw [H1.out]; simp, below_step ((Below.refl _ _).alloc (Nat.le_refl _) _) (by simp) u.below⟩
  · have H1 : Hid (overB (wrap64 (nw - a1)) i1 = false) := h1
    have O1 : Hid (∀ W, Calls Try.prog 32 #[.int .i64 (wrap64 (nw - a1)), .int .i64 i1] W fun e w' => e = .returned (.bool false) ∧ w' = W) := by intro W; have h2 := OV.out (wrap64 (nw - a1)) i1 W; rw [h1] at h2; exact h2
    clear h1
    go_enter Try.func31, Try.ntmps31
    go_wp2_with fail
    refine wp_region_later (by kernel_rfl) (by kernel_rfl) ?_
    go_big_quiet_step (rfl)
    go_big_quiet_step (rfl)
    go_big_quiet_step (rfl)
    go_big_quiet_step (rfl)
    go_big_quiet_step (rfl)
    refine q_nilT rfl _ rfl _ rfl ?_
    simp only [Act.put, List.setIfInBounds_toArray, List.set_cons_succ, List.set_cons_zero]
    go_big_quiet_step (rfl)
    go_big_quiet_step (rfl)
    go_big_quiet_want; go_big_quiet_op
    refine ⟨_, fun u => Calls.later_sameT (O1.out u.world), ?_⟩
    go_big_quiet_on
    go_big_quiet_step (rfl)
    go_big_quiet_step (rfl)
    go_big_quiet_step (rfl)
    go_big_quiet_step (rfl)
    go_big_quiet_step (rfl)
    go_big_quiet_step (rfl)
    refine q_nilT rfl _ rfl _ rfl ?_
    simp only [Act.put, List.setIfInBounds_toArray, List.set_cons_succ, List.set_cons_zero]
    go_big_quiet_step (rfl)
    go_big_quiet_step (rfl)
    go_big_quiet_want; go_big_quiet_op
    refine ⟨_, fun u => Calls.later_sameT (OV.out _ _ u.world), ?_⟩
    go_big_quiet_on
    go_big_quiet_step (rfl)
    go_big_quiet_step (rfl)
    refine wpQuiet_nil ?_
    rintro w' ⟨u, rfl⟩
    go_wp2_with fail
    go_ret
    exact ⟨by rw [H1.out]; simp, below_step ((Below.refl _ _).alloc (Nat.le_refl _) _) (by simp) u.below⟩
set_option maxHeartbeats 8000000 in
theorem tick_any (B : Nat) (w : World) (g : Nat) (R : Rm) (S : Bks) (v1 v2 v3 : Value) (h : TabV B w g R S v1 v2 v3) (now : Int) (hn : S.c.length ≤ 1000000) (hok : ∀ x ∈ S.c, 0 ≤ x.used ∧ x.used ≤ MAXT ∧ 0 ≤ x.born ∧ x.born ≤ MAXT) :
    Calls Try.prog 11 #[.pointer (some ⟨g, 0, none⟩), .int .i64 now] w fun e w' => ∃ u, e = .returned u ∧ SlotsAt w.heap.size w' u (tickT R.idle R.hard now S).2 ∧ TabTo B w w' g R (tickT R.idle R.hard now S).1 v1 v2 v3 := by
  have TI : Hid (∀ W, Calls Try.prog 17 #[.int .i64 now] W fun r w' => r = .returned (.int .i64 (timeT now)) ∧ w' = W) := ticks_any now
  have DR : Hid (∀ W, Below w.heap.size w W → W.heap[w.heap.size]? = some (.cells #[.pointer (some ⟨g, 0, none⟩)] 31 (0, 0)) → W.heap[w.heap.size + 1]? = some (.cells #[.int .i64 (timeT now)] 3 (0, 0)) → Calls Try.prog 29 #[.pointer (some ⟨g, 0, none⟩), .int .i64 1, .func (.func 31) #[] #[.pointer (some ⟨w.heap.size + 1, 0, none⟩), .pointer (some ⟨w.heap.size, 0, none⟩)]] W fun e w' => ∃ u, e = .returned u ∧ SlotsAt w.heap.size w' u (tickT R.idle R.hard now S).2 ∧ TabTo B w w' g R (tickT R.idle R.hard now S).1 v1 v2 v3) := by
    intro W hb hp0 hp1
    have hT := h.below hb
    have n0 := hT.boxes hp0 (by decide) (by decide)
    have n1 := hT.boxes hp1 (by decide) (by decide)
    have cong : ∀ q : Bool → Bool, S.c.filter (fun x => q (oldW R.idle R.hard (timeT now) x)) = S.c.filter (fun x => q (oldS R.idle R.hard now x)) := fun q => by
      apply List.filter_congr
      intro x hx
      obtain ⟨h1, h2, h3, h4⟩ := hok x hx
      rw [oldW_eq h1 h2 h3 h4]
    refine (drop_any B W g R S v1 v2 v3 hT 1 (by decide) hn 31 #[.pointer (some ⟨w.heap.size + 1, 0, none⟩), .pointer (some ⟨w.heap.size, 0, none⟩)] (oldW R.idle R.hard (timeT now)) (fun vs W => by have hf := Try.func31; simp [go_sem]) (fun y W' hW' => ?_)).mono ?_
    · exact tick1_any y (timeT now) W' _ _ g R v1 v2 v3 _ _ (hW'.heap hp1 fun e => n1 (bank_foot e)) (hW'.heap hp0 fun e => n0 (bank_foot e)) (hW'.heap hT.blk ((hT.bank 1).ty hT.blk (by decide)))
    · rintro e w' ⟨u, rfl, hu, ht⟩
      refine ⟨u, rfl, ?_, ?_⟩
      · have e1 : S.c.filter (oldW R.idle R.hard (timeT now)) = S.c.filter (oldS R.idle R.hard now) := cong id
        have : bankL S 1 = S.c := rfl
        rw [this, e1] at hu
        exact hu.base hb.size
      · have e1 : S.c.filter (fun x => !(oldW R.idle R.hard (timeT now) x)) = S.c.filter (fun x => !(oldS R.idle R.hard now x)) := cong (fun b => !b)
        have : bankL S 1 = S.c := rfl
        rw [this, e1] at ht
        obtain ⟨t1, t2, t3, a1, a2, a3⟩ := ht
        exact ⟨t1, t2, t3, a1, Kept.pre hb a2, fun k hk => by
          rcases a3 k hk with e | e
          · exact .inl e
          · exact .inr (Nat.le_trans hb.size e)⟩
  have Bx : Hid (∀ z : Int, Below w.heap.size w ((w.alloc (.cells #[.pointer (some ⟨g, 0, none⟩)] 31)).alloc (.cells #[.int .i64 z] 3))) := fun z => ((Below.refl _ _).alloc (Nat.le_refl _) _).alloc (by simp) _
  clear h hn hok
  have c0 : ∀ z : Int, ((w.alloc (.cells #[.pointer (some ⟨g, 0, none⟩)] 31)).alloc (.cells #[.int .i64 z] 3)).cell? ⟨w.heap.size, 0, none⟩ = some (.pointer (some ⟨g, 0, none⟩)) := fun z => by rw [cell_of_row _ _ _ _ _ _ (heap_past _ _ _ _ (heap_new w _ _ rfl))]; rfl
  go_enter Try.func11, Try.ntmps11
  go_wp2_with (first | (go_at_call 17; refine (TI.out _).mono ?_; rintro r w2 ⟨rfl, rfl⟩) | (go_at_call 29; refine of_stopS ?_))
  unfold StopS
  refine (DR.out _ (Bx.out _) (heap_past _ _ _ _ (heap_new _ _ _ rfl)) (heap_new _ _ _ (by simp))).mono ?_
  rintro e w3 ⟨u, rfl, hu, ht⟩
  have HU : Hid _ := hu
  have HT : Hid _ := ht
  clear hu ht
  go_wp2_with fail
  go_ret
  exact ⟨_, rfl, HU.out, HT.out⟩
end Go.Proofs.Ytojhckjdkafpmab
