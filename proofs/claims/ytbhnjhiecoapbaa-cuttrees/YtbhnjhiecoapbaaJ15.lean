import Derived.Test.YtbhnjhiecoapbaaJ14
import Derived.Test.YtbhnjhiecoapbaaJ3
import Derived.Test.YtbhnjhiecoapbaaJ9
namespace Go.Proofs.Ytbhnjhiecoapbaa
open Go Go.RowKit
set_option maxRecDepth 20000

/-- A rule's part within a cube. -/
def cutR (V M : List Int) (r : RuleM) : Option RuleM := if meets r.cube.1 r.cube.2 V M then some ⟨r.order, (meetV r.cube.1 r.cube.2 V M, meetM r.cube.2 M), r.action⟩ else none
def meetL (V M : List Int) (l : List RuleM) : List RuleM := l.filterMap (cutR V M)
def clipT (V M : List Int) (l : List RuleM) : List RuleM := trimT (meetL V M l)
theorem cutR_yes {V M : List Int} {r : RuleM} (h : meets r.cube.1 r.cube.2 V M = true) : cutR V M r = some ⟨r.order, (meetV r.cube.1 r.cube.2 V M, meetM r.cube.2 M), r.action⟩ := by unfold cutR; rw [if_pos h]
theorem cutR_no {V M : List Int} {r : RuleM} (h : meets r.cube.1 r.cube.2 V M = false) : cutR V M r = none := by unfold cutR; rw [h]; rfl
theorem meet_ok (V M V' M' : List Int) (n a : Int) : okR8 ⟨n, (meetV V M V' M', meetM M M'), a⟩ := by
  constructor
  · show Byt (meetV V M V' M')
    unfold meetV
    exact mk_byt _
  · show Byt (meetM M M')
    unfold meetM
    exact mk_byt _
theorem cutR_ok {V M : List Int} {r s : RuleM} (h : cutR V M r = some s) : okR8 s := by
  rcases Bool.eq_false_or_eq_true (meets r.cube.1 r.cube.2 V M) with hm | hm
  · rw [cutR_yes hm] at h
    obtain rfl := Option.some.inj h
    exact meet_ok _ _ _ _ _ _
  · rw [cutR_no hm] at h
    exact absurd h (by simp)
theorem meetL_ok {V M : List Int} {l : List RuleM} : ∀ r ∈ meetL V M l, okR8 r := fun r hr => by
  obtain ⟨a, _, h⟩ := List.mem_filterMap.1 hr
  exact cutR_ok h
theorem meetL_len (V M : List Int) (l : List RuleM) : (meetL V M l).length ≤ l.length := List.length_filterMap_le _ _
theorem meetL_take {V M : List Int} {l : List RuleM} {k : Nat} {r : RuleM} (h : l[k]? = some r) : meetL V M (l.take (k + 1)) = meetL V M (l.take k) ++ (cutR V M r).toList := by
  unfold meetL
  rw [List.take_add_one, h, List.filterMap_append]
  cases hc : cutR V M r <;> simp [hc]
theorem clipT_ok {V M : List Int} {l : List RuleM} : ∀ r ∈ clipT V M l, okR8 r := fun r hr => by
  rcases trimO_sub withinR _ _ r hr with h | h
  · simp at h
  · exact meetL_ok r h
theorem clipT_len (V M : List Int) (l : List RuleM) : (clipT V M l).length ≤ l.length := by
  have h1 := trimO_len withinR (meetL V M l) []
  have h2 := meetL_len V M l
  unfold clipT trimT
  simp at h1
  omega
theorem below_stepR {B : Nat} {w wr w' : World} (hb : Below B w wr) (hB : B ≤ wr.heap.size) (h : Below wr.heap.size wr w') : Below B w w' := hb.trans (h.mono hB)
theorem wl_gC12 {P : Program} {ops : Array Oper} {Q : Exit → Act → World → Prop} {o : Oper} {rest : List Oper} {a : Act} {w : World} (x : Operand) (_ : o.op = .load 26 x) (h : wpList P ops Q (o :: rest) a w) : wpList P ops Q (o :: rest) a w := h
theorem wl_gR12 {P : Program} {ops : Array Oper} {Q : Exit → Act → World → Prop} {o : Oper} {rest : List Oper} {a : Act} {w : World} (x : Operand) (_ : o.op = .load 30 x) (h : wpList P ops Q (o :: rest) a w) : wpList P ops Q (o :: rest) a w := h
theorem wl_gSC12 {P : Program} {ops : Array Oper} {Q : Exit → Act → World → Prop} {o : Oper} {rest : List Oper} {a : Act} {w : World} (x y : Operand) (_ : o.op = .store 26 x y) (h : wpList P ops Q (o :: rest) a w) : wpList P ops Q (o :: rest) a w := h
theorem wl_gSR12 {P : Program} {ops : Array Oper} {Q : Exit → Act → World → Prop} {o : Oper} {rest : List Oper} {a : Act} {w : World} (x y : Operand) (_ : o.op = .store 30 x y) (h : wpList P ops Q (o :: rest) a w) : wpList P ops Q (o :: rest) a w := h
theorem wl_gBS12 {P : Program} {ops : Array Oper} {Q : Exit → Act → World → Prop} {o : Oper} {rest : List Oper} {a : Act} {w : World} (x : Operand) (_ : o.op = .buildSlice 22 1 #[(0, x)]) (h : wpList P ops Q (o :: rest) a w) : wpList P ops Q (o :: rest) a w := h
theorem own_setRow12 {w : World} {B : Nat} {e : TypeId} {s : Nat} {v : Value} {n : Nat} {xs : List Value} {q : Nat} (h : w.ownsRow B e s v n xs) (hq : ∀ j, v.ownBlock = some j → j ≠ q) (cs : Array Value) : (w.setRow q cs).ownsRow B e s v n xs := by
  obtain ⟨h1, h2 | ⟨g, cap, cur, rfl, hB, hcur, h3⟩⟩ := h
  · exact ⟨h1, .inl h2⟩
  · exact ⟨h1, .inr ⟨g, cap, cur, rfl, hB, (setRow_other _ _ _ _ (hq g rfl)).trans hcur, h3⟩⟩
/-- A rule's cube is stored. -/
theorem storeCubR_run {w : World} {q : Nat} {r : RuleM} (hr : okR8 r) {V M : List Int} (hV : V.length = 13) (hM : M.length = 13) (hg : w.heap[q]? = some (.cells (ruleV r) 30 (0, 0))) :
    (Instr.storeAt 26 (.pointer (some ⟨q, 1, none⟩)) (.agg (cv V M))).run Try.prog w = .ok () (w.setRow q (ruleV ⟨r.order, (V, M), r.action⟩)) := by
  have hl : (cv V M).toList.length = 26 := by rw [Array.length_toList, cv_size _ _ hV hM]
  have hst := run_storeCells_at Try.prog q 1 30 (cv V M).toList 0 (ruleV r) w hg (by rw [hl, ruleV_size hr]; decide) (fun u hu => (Array.all_eq_true_iff_forall_mem.1 (cv_one _ _)) u (by simpa using hu))
  rw [Nat.add_zero, hl] at hst
  have hl2 : (cv r.cube.1 r.cube.2).toList.length = 26 := by rw [Array.length_toList, cv_size _ _ hr.1.1 hr.2.1]
  have hz : ∀ w, (sizeOf 26).run Try.prog w = .ok 26 w := fun w => by kernel_rfl
  have e : ((ruleV r).toList.take 1 ++ (cv V M).toList ++ (ruleV r).toList.drop (1 + 26)).toArray = ruleV ⟨r.order, (V, M), r.action⟩ := by
    apply Array.ext'
    unfold ruleV
    simp only [Array.toList_append]
    rw [List.take_append_of_le_length (by simp), List.append_assoc, List.drop_append, List.drop_of_length_le (by simp), List.nil_append]
    have e1 : (1 + 26 - #[Value.int .i64 r.order].toList.length) = 26 := rfl
    rw [e1, List.drop_append, List.drop_of_length_le (by omega), hl2]
    simp
  rw [e] at hst
  simp [Instr.storeAt, Instr.sureAddr, storeVar, Sem.run_bind, Value.cells, hst, hz, cv_size _ _ hV hM]
theorem wl_storeCubR {ops : Array Oper} {rest : List Oper} {o : Oper} {a : Act} {w : World} {Q : Exit → Act → World → Prop} (hgd : o.guard = none) (x y : Operand) (ho : o.op = .store 26 x y)
    (q : Nat) (r : RuleM) (hr : okR8 r) (V M : List Int) (hV : V.length = 13) (hM : M.length = 13) (hx : a.eval x = .pointer (some ⟨q, 1, none⟩)) (hy : a.eval y = .agg (cv V M)) (hg : w.heap[q]? = some (.cells (ruleV r) 30 (0, 0))) (w4 : World) (hw4 : w.setRow q (ruleV ⟨r.order, (V, M), r.action⟩) = w4)
    (h : wpList Try.prog ops Q rest (a.put o.dst undef) w4) : wpList Try.prog ops Q (o :: rest) a w := by
  subst hw4
  refine wpList_plain hgd fun K hK => ?_
  unfold Oper.wp execOp
  simp only [ho, hx, hy, Sem.run_bind, Sem.run_pure, Result.andThen_ok, storeCubR_run hr hV hM hg]
  exact hK _ _ h
theorem RulesAt.own {B : Nat} {w : World} {v : Value} {T : List RuleM} (hT : ∀ r ∈ T, okR8 r) (h : w.ownsRow B 30 28 v T.length (gcells ruleV T)) : RulesAt w v T := gsl_of (E := RuleE) h fun c hc => ruleV_size (hT c hc)
set_option maxHeartbeats 16000000 in
theorem clip_any (l : List RuleM) (hl0 : ∀ r ∈ l, okR8 r) (hn1 : l.length ≤ 100000) (vl : Value) (V M : List Int) (hV : Byt V) (hM : Byt M) (w : World) (hl : RulesAt w vl l) :
    Calls Try.prog 10 #[vl, .agg (cv V M)] w fun e w' => (∃ v, e = .returned v ∧ w'.ownsRow w.heap.size 30 28 v (clipT V M l).length (gcells ruleV (clipT V M l))) ∧ Below w.heap.size w w' := by
  have ME : Hid (∀ (r : RuleM) W, okR8 r → Calls Try.prog 23 #[.agg (cv r.cube.1 r.cube.2), .agg (cv V M)] W fun e w' => e = .returned (meetR r.cube.1 r.cube.2 V M) ∧ Below W.heap.size W w') := fun r W hr => meet_any r.cube.1 r.cube.2 V M hr.1 hr.2 hV hM W
  have TR : Hid (∀ (T : List RuleM) v W, (∀ r ∈ T, okR8 r) → T.length ≤ 100000 → RulesAt W v T → Calls Try.prog 24 #[v] W fun e w' => (∃ v, e = .returned v ∧ w'.ownsRow W.heap.size 30 28 v (trimT T).length (gcells ruleV (trimT T))) ∧ Below W.heap.size W w') := fun T v W h1 h2 h3 => trim_any T h1 h2 v W h3
  have hVl := hV.1
  have hMl := hM.1
  obtain ⟨o, cap, rfl, hc1, hc2⟩ := GSl.slice hl
  obtain ⟨n, hn0⟩ : ∃ n, n = l.length := ⟨_, rfl⟩
  have HN : Hid (n = l.length) := hn0
  rw [← hn0] at hl hc1 hn1 ⊢
  have HL : Hid (RulesAt w (.slice o n cap) l) := hl
  have HOK : Hid (∀ r ∈ l, okR8 r) := hl0
  unfold maxLen at hc2
  clear hl hn0 hl0 hV hM
  go_enter Try.func10, Try.ntmps10
  go_wp2_with fail
  go_loopw [5, 12] (fun v i wr => ∃ (k : Nat) (T : List RuleM), k ≤ n ∧ i = .int .i64 (k : Int) ∧ Hid (T = meetL V M (l.take k)) ∧ T.length ≤ k ∧ Hid (wr.ownsRow w.heap.size 30 28 v T.length (gcells ruleV T)) ∧ Hid (wr.heap[w.heap.size]? = some (.cells (cv V M) 26 (0, 0))) ∧ Hid (∀ j, v.ownBlock = some j → j ≠ w.heap.size) ∧ Hid (Below w.heap.size w wr)) (fun _ i _ => n - (intOf i).toNat)
  case atStart => exact ⟨0, [], Nat.zero_le _, rfl, rfl, Nat.le_refl _, World.ownsRow_nil _ _ _ _, heap_new _ _ _ rfl, fun j hj => (by cases hj), (Below.refl _ _).alloc (Nat.le_refl _) _⟩
  case round =>
    obtain ⟨k, T, hk, rfl, HT, hTk, HO, HC, HX, HB⟩ := hrel
    by_cases hlt : k < n
    · have hlt' : (k : Int) < (n : Int) := by omega
      obtain ⟨g, off, cur, ty, fr, r, rfl, hg, hc, hxk⟩ := (GSl.below HL.out HB.out).at k hlt
      have hr : okR8 r := HOK.out r (List.mem_of_getElem? hxk)
      have HR : Hid (okR8 r) := hr
      have hsz := ruleV_size hr
      have K1 : Hid (wr.heap[g]? = some (.cells cur ty fr)) := hg
      have H1 : Hid (∀ j, j < 28 → cur[off + k * 28 + j]? = (ruleV r)[j]?) := hc
      have HNX : Hid (meetL V M (l.take (k + 1)) = T ++ (cutR V M r).toList) := by show _ = _; rw [HT.out]; exact meetL_take hxk
      obtain ⟨w1, hw1⟩ : ∃ w1, w1 = wr.alloc (.cells (ruleV r) 30) := ⟨_, rfl⟩
      have B1 : Hid (Below wr.heap.size wr w1) := by show Below _ _ _; rw [hw1]; exact (Below.refl _ _).alloc (Nat.le_refl _) _
      have X1 : Hid (w1.heap[wr.heap.size]? = some (.cells (ruleV r) 30 (0, 0))) := by show _ = _; rw [hw1]; exact heap_new _ _ _ rfl
      have C1 : Hid (w1.heap[w.heap.size]? = some (.cells (cv V M) 26 (0, 0))) := (B1.out.block _ (Array.getElem?_eq_some_iff.1 HC.out).1).trans HC.out
      have hme := ME.out r w1 hr
      clear hg hc hxk hr
      go_wp2_with (first | ((with_reducible refine wl_gR12 _ rfl ?_); refine wl_loadE (E := RuleE) RuleOk rfl _ rfl g (off + k * 28) rfl cur ty fr (ruleV r) hsz K1.out H1.out ?_) | ((with_reducible refine wl_gSR12 _ _ rfl ?_); refine wl_storeE (E := RuleE) RuleOk rfl _ _ rfl wr.heap.size (ruleV r) (rule_fits HR.out) rfl rfl _ (heap_new _ _ _ rfl) rfl _ (setRow_new _ _ _ _ _ rfl) ?_; refine of_stopT ?_))
      unfold StopT
      rw [← hw1]
      clear hw1
      obtain ⟨q, hq⟩ : ∃ q, q = wr.heap.size := ⟨_, rfl⟩
      rw [← hq] at X1
      rw [← hq]
      have NQ : Hid (w.heap.size < q) := by show _ < _; rw [hq]; exact (Array.getElem?_eq_some_iff.1 HC.out).1
      have OQ : Hid (∀ j, u5.ownBlock = some j → j < q) := fun j hj => by rw [hq]; exact (World.ownsRow.lt HO.out j hj).2
      clear hq
      go_wp2_with (first | ((with_reducible refine wl_gC12 _ rfl ?_); (first | refine wl_loadCw rfl _ rfl q 1 rfl _ _ _ r.cube.1 r.cube.2 HR.out.1.1 HR.out.2.1 X1.out (rule_at HR.out).2.1 ?_ | refine wl_loadCw rfl _ rfl w.heap.size 0 rfl _ _ _ V M hVl hMl C1.out (own_cells _ _) ?_)) | (go_at_call 23; refine hme.mono ?_; rintro e w2 ⟨rfl, hb2⟩; refine of_stopT ?_))
      unfold StopT
      have BR2 : Hid (Below wr.heap.size wr w2) := below_stepR B1.out B1.out.size hb2
      have X2 : Hid (w2.heap[q]? = some (.cells (ruleV r) 30 (0, 0))) := (hb2.block _ (Array.getElem?_eq_some_iff.1 X1.out).1).trans X1.out
      clear hb2 hme
      rcases Bool.eq_false_or_eq_true (meets r.cube.1 r.cube.2 V M) with hm | hm
      · have ECU : Hid (cutR V M r = some ⟨r.order, (meetV r.cube.1 r.cube.2 V M, meetM r.cube.2 M), r.action⟩) := cutR_yes hm
        rw [meetR_yes _ _ _ _ hm]
        have hok := meet_ok r.cube.1 r.cube.2 V M r.order r.action
        obtain ⟨V2, hV2⟩ : ∃ V2, V2 = meetV r.cube.1 r.cube.2 V M := ⟨_, rfl⟩
        obtain ⟨M2, hM2⟩ : ∃ M2, M2 = meetM r.cube.2 M := ⟨_, rfl⟩
        rw [← hV2, ← hM2] at ECU hok
        rw [← hV2, ← hM2]
        have HOK2 : Hid (okR8 ⟨r.order, (V2, M2), r.action⟩) := hok
        have lv : V2.length = 13 := hok.1.1
        have lm : M2.length = 13 := hok.2.1
        clear hV2 hM2 hm hok
        obtain ⟨w3, hw3⟩ : ∃ w3, w3 = w2.alloc (.cells (cv V2 M2) 26) := ⟨_, rfl⟩
        have B3 : Hid (Below w2.heap.size w2 w3) := by show Below _ _ _; rw [hw3]; exact (Below.refl _ _).alloc (Nat.le_refl _) _
        have Y3 : Hid (w3.heap[w2.heap.size]? = some (.cells (cv V2 M2) 26 (0, 0))) := by show _ = _; rw [hw3]; exact heap_new _ _ _ rfl
        have X3 : Hid (w3.heap[q]? = some (.cells (ruleV r) 30 (0, 0))) := (B3.out.block _ (Array.getElem?_eq_some_iff.1 X2.out).1).trans X2.out
        go_wp2_with (first | ((with_reducible refine wl_gSC12 _ _ rfl ?_); refine wl_storeC rfl _ _ rfl w2.heap.size V2 M2 rfl rfl _ (heap_new _ _ _ rfl) rfl lv lm _ (setRow_new _ _ _ _ _ rfl) ?_; refine of_stopT ?_))
        unfold StopT
        rw [← hw3]
        clear hw3
        obtain ⟨w4, hw4⟩ : ∃ w4, w3.setRow q (ruleV ⟨r.order, (V2, M2), r.action⟩) = w4 := ⟨_, rfl⟩
        have X4 : Hid (w4.heap[q]? = some (.cells (ruleV ⟨r.order, (V2, M2), r.action⟩) 30 (0, 0))) := by show _ = _; rw [← hw4]; exact setRow_heap _ _ _ _ _ _ X3.out
        have BR3 : Hid (Below wr.heap.size wr w3) := below_stepR BR2.out BR2.out.size B3.out
        have HW4 : Hid (_ = w4) := hw4
        have BW4 : Hid (Below w.heap.size w w4) := by show Below _ _ _; rw [← hw4]; exact below_setRow (below_stepR HB.out HB.out.size BR3.out) (Nat.le_of_lt NQ.out) _
        have C4 : Hid (w4.heap[w.heap.size]? = some (.cells (cv V M) 26 (0, 0))) := by show _ = _; rw [← hw4]; exact (setRow_other _ _ _ _ (by have := NQ.out; omega)).trans ((BR3.out.block _ (Array.getElem?_eq_some_iff.1 HC.out).1).trans HC.out)
        have O4 : Hid (w4.ownsRow w.heap.size 30 28 u5 T.length (gcells ruleV T)) := by
          show World.ownsRow _ _ _ _ _ _ _
          have h1 := gown_below HO.out BR3.out
          rw [← hw4]
          exact own_setRow12 h1 (fun j hj => by have := OQ.out j hj; omega) _
        clear hw4
        obtain ⟨r2, hr2⟩ : ∃ r2 : RuleM, r2 = ⟨r.order, (V2, M2), r.action⟩ := ⟨_, rfl⟩
        rw [← hr2] at X4 ECU HOK2
        have hs2 := ruleV_size HOK2.out
        have HW4' : Hid (w3.setRow q (ruleV ⟨r.order, (V2, M2), r.action⟩) = w4) := HW4.out
        clear hr2 HW4
        have O5 : Hid ((w4.alloc (.cells (ruleV r2) 30)).ownsRow w.heap.size 30 28 u5 T.length (gcells ruleV T)) := O4.out.alloc _
        have BW5 : Hid (Below w.heap.size w (w4.alloc (.cells (ruleV r2) 30))) := BW4.out.alloc BW4.out.size _
        go_wp2_with (first | ((with_reducible refine wl_gC12 _ rfl ?_); refine wl_loadCw rfl _ rfl w2.heap.size 0 rfl _ _ _ V2 M2 lv lm Y3.out (own_cells _ _) ?_) | ((with_reducible refine wl_gSC12 _ _ rfl ?_); refine wl_storeCubR rfl _ _ rfl q r HR.out V2 M2 lv lm rfl rfl X3.out w4 HW4'.out ?_) | ((with_reducible refine wl_gR12 _ rfl ?_); refine wl_loadE (E := RuleE) RuleOk rfl _ rfl q 0 rfl _ _ _ (ruleV r2) hs2 X4.out (own_cells _ _) ?_) | ((with_reducible refine wl_gBS12 _ rfl ?_); refine wl_buildE (E := RuleE) RuleOk rfl _ rfl (ruleV r2) hs2 rfl ?_) | (at_builtin; refine of_stopT ?_))
        unfold StopT
        refine wl_appendE (E := RuleE) RuleOk ruleV rfl _ _ rfl w.heap.size u5 T r2 (rule_fits HOK2.out) rfl O5.out w4.heap.size 1 rfl (heap_new _ _ _ rfl) (by omega) (by have := BW4.out.size; simp; omega) ?_
        intro v' w6 hown6 hgr6 hat6
        have B6 : Hid (Below w.heap.size w w6) := BW5.out.trans ((Below.refl _ _).grown hgr6 BW5.out.size fun k hk => (O5.out.lt k hk).1)
        have O6 : Hid (w6.ownsRow w.heap.size 30 28 v' (T ++ [r2]).length (gcells ruleV (T ++ [r2]))) := hown6
        have C6 : Hid (w6.heap[w.heap.size]? = some (.cells (cv V M) 26 (0, 0))) := by
          have h1 := heap_past w4 (.cells (ruleV r2) 30) _ _ C4.out
          have h2 := (Array.getElem?_eq_some_iff.1 h1).1
          exact (hgr6.block _ h2 (fun e => HX.out _ e.symm rfl)).trans h1
        have X6 : Hid (∀ j, v'.ownBlock = some j → j ≠ w.heap.size) := by
          intro j hj
          rcases hat6 with e | e
          · rw [e] at hj; exact HX.out j hj
          · rw [e] at hj
            simp only [Option.some.injEq] at hj
            have h3 := BW5.out.size
            have h4 := (Array.getElem?_eq_some_iff.1 C4.out).1
            simp at hj
            omega
        have HT6 : Hid (T ++ [r2] = meetL V M (l.take (k + 1))) := by show _ = _; rw [HNX.out, ECU.out]; rfl
        clear hown6 hgr6 hat6
        simp only [Act.put, List.setIfInBounds_toArray, List.set_cons_succ, List.set_cons_zero]
        go_wp2_with fail
        go_roundw
        case rel => exact ⟨k + 1, T ++ [r2], by omega, by go_num, HT6, by simp; omega, O6, C6, X6, B6⟩
        case measure => simp [intOf]; omega
      · have ECU : Hid (cutR V M r = none) := cutR_no hm
        rw [meetR_no _ _ _ _ hm]
        clear hm
        have BW2 : Hid (Below w.heap.size w w2) := below_stepR HB.out HB.out.size BR2.out
        have C2 : Hid (w2.heap[w.heap.size]? = some (.cells (cv V M) 26 (0, 0))) := (BR2.out.block _ (Array.getElem?_eq_some_iff.1 HC.out).1).trans HC.out
        have O2 : Hid (w2.ownsRow w.heap.size 30 28 u5 T.length (gcells ruleV T)) := gown_below HO.out BR2.out
        have HT2 : Hid (T = meetL V M (l.take (k + 1))) := by show _ = _; rw [HNX.out, ECU.out]; simp
        go_wp2_with (first | ((with_reducible refine wl_gSC12 _ _ rfl ?_); refine wl_storeC rfl _ _ rfl w2.heap.size Z Z rfl rfl _ (heap_new _ _ _ rfl) rfl Z_byt.1 Z_byt.1 _ (setRow_new _ _ _ _ _ rfl) ?_))
        go_roundw
        case rel => exact ⟨k + 1, T, by omega, by go_num, HT2, by omega, O2.out.alloc _, heap_past _ _ _ _ C2.out, HX, BW2.out.alloc BW2.out.size _⟩
        case measure => simp [intOf]; omega
    · have hlt' : ¬ (k : Int) < (n : Int) := by omega
      have HE : Hid (T = meetL V M l) := by
        have e := HN.out
        show _ = _
        rw [HT.out, List.take_of_length_le (by omega)]
      have OKT : Hid (∀ r ∈ T, okR8 r) := by intro r hr; rw [HE.out] at hr; exact meetL_ok r hr
      have htr := TR.out T u5 wr OKT.out (by omega) (RulesAt.own OKT.out HO.out)
      go_wp2_with (go_at_call 24; refine htr.mono ?_; rintro e w2 ⟨⟨v2, rfl, hv2⟩, hb2⟩; refine of_stopT ?_)
      unfold StopT
      have O2 : Hid (w2.ownsRow wr.heap.size 30 28 v2 (trimT T).length (gcells ruleV (trimT T))) := hv2
      have B2 : Hid (Below w.heap.size w w2) := below_stepR HB.out HB.out.size hb2
      have SZ : Hid (w.heap.size ≤ wr.heap.size) := HB.out.size
      clear hv2 hb2 htr
      go_wp2_with fail
      go_ret
      refine ⟨⟨_, rfl, ?_⟩, B2.out⟩
      have h9 := gown_base O2.out SZ.out
      rw [HE.out] at h9
      exact h9
end Go.Proofs.Ytbhnjhiecoapbaa
namespace Go.Proofs.Ytbhnjhiecoapbaa
open Go Go.RowKit
set_option maxRecDepth 20000

/-- How many fit, up to the first that has all. -/
def needF {α : Type} (m q : α → Bool) : List α → Nat
  | [] => 0
  | r :: l => if m r then (if q r then 1 else needF m q l + 1) else needF m q l
theorem need_le {α : Type} (m q : α → Bool) : ∀ l : List α, needF m q l ≤ l.length
  | [] => Nat.le_refl _
  | r :: l => by
    have ih := need_le m q l
    unfold needF
    rw [List.length_cons]
    split
    · split
      · omega
      · omega
    · omega
theorem need_app {α : Type} {m q : α → Bool} : ∀ {A B : List α}, (∀ r ∈ A, m r = true → q r = false) → needF m q (A ++ B) = A.countP m + needF m q B
  | [], B, _ => by simp
  | r :: A, B, h => by
    have ih := need_app (m := m) (q := q) (A := A) (B := B) fun x hx => h x (List.mem_cons_of_mem _ hx)
    rw [List.cons_append, needF, ih, List.countP_cons]
    cases hm : m r with
    | true => rw [if_pos rfl, h r (by simp) hm]; simp; omega
    | false => simp
theorem need_stop {α : Type} {m q : α → Bool} {l : List α} {k : Nat} {r : α} (hr : l[k]? = some r) (h : ∀ j x, j < k → l[j]? = some x → m x = true → q x = false) (hm : m r = true) (hq : q r = true) : needF m q l = (l.take k).countP m + 1 := by
  have hk := (List.getElem?_eq_some_iff.1 hr)
  have e : l = l.take k ++ (r :: l.drop (k + 1)) := by rw [← hk.2, List.getElem_cons_drop, List.take_append_drop]
  have h1 : ∀ x ∈ l.take k, m x = true → q x = false := fun x hx => by
    obtain ⟨j, hj⟩ := List.mem_iff_getElem?.1 hx
    have hj' := (List.getElem?_eq_some_iff.1 hj).1
    rw [List.length_take] at hj'
    rw [List.getElem?_take_of_lt (by omega)] at hj
    exact h j x (by omega) hj
  have h2 := need_app (B := r :: l.drop (k + 1)) h1
  rw [← e] at h2
  rw [h2, needF, if_pos hm, if_pos hq]
theorem need_all {α : Type} {m q : α → Bool} {l : List α} (h : ∀ j x, j < l.length → l[j]? = some x → m x = true → q x = false) : needF m q l = l.countP m := by
  have h1 : ∀ x ∈ l, m x = true → q x = false := fun x hx => by
    obtain ⟨j, hj⟩ := List.mem_iff_getElem?.1 hx
    exact h j x (List.getElem?_eq_some_iff.1 hj).1 hj
  have h2 := need_app (B := []) h1
  rw [List.append_nil] at h2
  simpa [needF] using h2
theorem count_take {α : Type} {m : α → Bool} {l : List α} {k : Nat} {r : α} (hr : l[k]? = some r) : (l.take (k + 1)).countP m = (l.take k).countP m + if m r then 1 else 0 := by
  rw [List.take_add_one, hr, List.countP_append]
  simp [List.countP_cons]
def mR (V M : List Int) (r : RuleM) : Bool := meets r.cube.1 r.cube.2 V M
def fR (V M : List Int) (r : RuleM) : Bool := meetV r.cube.1 r.cube.2 V M == V && meetM r.cube.2 M == M
set_option maxHeartbeats 16000000 in
theorem cnt_any (l : List RuleM) (hl0 : ∀ r ∈ l, okR8 r) (hn1 : l.length ≤ 100000) (vl : Value) (V M : List Int) (hV : Byt V) (hM : Byt M) (w : World) (hl : RulesAt w vl l) :
    Calls Try.prog 27 #[vl, .agg (cv V M)] w fun e w' => e = .returned (.int .i64 (needF (mR V M) (fR V M) l : Nat)) ∧ Below w.heap.size w w' := by
  have ME : Hid (∀ (r : RuleM) W, okR8 r → Calls Try.prog 23 #[.agg (cv r.cube.1 r.cube.2), .agg (cv V M)] W fun e w' => e = .returned (meetR r.cube.1 r.cube.2 V M) ∧ Below W.heap.size W w') := fun r W hr => meet_any r.cube.1 r.cube.2 V M hr.1 hr.2 hV hM W
  have hVl := hV.1
  have hMl := hM.1
  obtain ⟨o, cap, rfl, hc1, hc2⟩ := GSl.slice hl
  obtain ⟨n, hn0⟩ : ∃ n, n = l.length := ⟨_, rfl⟩
  have HN : Hid (n = l.length) := hn0
  rw [← hn0] at hl hc1 hn1 ⊢
  have HL : Hid (RulesAt w (.slice o n cap) l) := hl
  have HOK : Hid (∀ r ∈ l, okR8 r) := hl0
  have NS : Hid (∀ (k : Nat) (r : RuleM), l[k]? = some r → (∀ j x, j < k → l[j]? = some x → mR V M x = true → fR V M x = false) → mR V M r = true → fR V M r = true → needF (mR V M) (fR V M) l = (l.take k).countP (mR V M) + 1) := fun k r h1 h2 h3 h4 => need_stop h1 h2 h3 h4
  have NA : Hid ((∀ j x, j < n → l[j]? = some x → mR V M x = true → fR V M x = false) → needF (mR V M) (fR V M) l = l.countP (mR V M)) := fun h => need_all fun j x hj hx => h j x (by rw [hn0]; exact hj) hx
  unfold maxLen at hc2
  clear hl hn0 hl0 hV hM
  go_enter Try.func27, Try.ntmps27
  go_wp2_with fail
  go_loopw [5, 12] (fun v i wr => ∃ (k m : Nat), k ≤ n ∧ i = .int .i64 (k : Int) ∧ v = .int .i64 (m : Int) ∧ m ≤ k ∧ Hid (m = (l.take k).countP (mR V M)) ∧ Hid (∀ j x, j < k → l[j]? = some x → mR V M x = true → fR V M x = false) ∧ Hid (wr.heap[w.heap.size]? = some (.cells (cv V M) 26 (0, 0))) ∧ Hid (Below w.heap.size w wr)) (fun _ i _ => n - (intOf i).toNat)
  case atStart => exact ⟨0, 0, Nat.zero_le _, rfl, rfl, Nat.le_refl _, rfl, fun j x hj => by omega, heap_new _ _ _ rfl, (Below.refl _ _).alloc (Nat.le_refl _) _⟩
  case round =>
    obtain ⟨k, m, hk, rfl, rfl, hmk, HC, HP, HZ, HB⟩ := hrel
    by_cases hlt : k < n
    · have hlt' : (k : Int) < (n : Int) := by omega
      obtain ⟨g, off, cur, ty, fr, r, rfl, hg, hc, hxk⟩ := (GSl.below HL.out HB.out).at k hlt
      have hr : okR8 r := HOK.out r (List.mem_of_getElem? hxk)
      have HR : Hid (okR8 r) := hr
      have hsz := ruleV_size hr
      have HX : Hid (l[k]? = some r) := hxk
      have K1 : Hid (wr.heap[g]? = some (.cells cur ty fr)) := hg
      have H1 : Hid (∀ j, j < 28 → cur[off + k * 28 + j]? = (ruleV r)[j]?) := hc
      have CT : Hid ((l.take (k + 1)).countP (mR V M) = m + if mR V M r then 1 else 0) := by show _ = _; rw [HC.out]; exact count_take hxk
      obtain ⟨w1, hw1⟩ : ∃ w1, w1 = wr.alloc (.cells (ruleV r) 30) := ⟨_, rfl⟩
      have B1 : Hid (Below wr.heap.size wr w1) := by show Below _ _ _; rw [hw1]; exact (Below.refl _ _).alloc (Nat.le_refl _) _
      have X1 : Hid (w1.heap[wr.heap.size]? = some (.cells (ruleV r) 30 (0, 0))) := by show _ = _; rw [hw1]; exact heap_new _ _ _ rfl
      have C1 : Hid (w1.heap[w.heap.size]? = some (.cells (cv V M) 26 (0, 0))) := (B1.out.block _ (Array.getElem?_eq_some_iff.1 HZ.out).1).trans HZ.out
      have hme := ME.out r w1 hr
      clear hg hc hxk hr
      go_wp2_with (first | ((with_reducible refine wl_gR12 _ rfl ?_); refine wl_loadE (E := RuleE) RuleOk rfl _ rfl g (off + k * 28) rfl cur ty fr (ruleV r) hsz K1.out H1.out ?_) | ((with_reducible refine wl_gSR12 _ _ rfl ?_); refine wl_storeE (E := RuleE) RuleOk rfl _ _ rfl wr.heap.size (ruleV r) (rule_fits HR.out) rfl rfl _ (heap_new _ _ _ rfl) rfl _ (setRow_new _ _ _ _ _ rfl) ?_; refine of_stopT ?_))
      unfold StopT
      rw [← hw1]
      clear hw1
      obtain ⟨q, hq⟩ : ∃ q, q = wr.heap.size := ⟨_, rfl⟩
      rw [← hq] at X1
      rw [← hq]
      clear hq
      go_wp2_with (first | ((with_reducible refine wl_gC12 _ rfl ?_); (first | refine wl_loadCw rfl _ rfl q 1 rfl _ _ _ r.cube.1 r.cube.2 HR.out.1.1 HR.out.2.1 X1.out (rule_at HR.out).2.1 ?_ | refine wl_loadCw rfl _ rfl w.heap.size 0 rfl _ _ _ V M hVl hMl C1.out (own_cells _ _) ?_)) | (go_at_call 23; refine hme.mono ?_; rintro e w2 ⟨rfl, hb2⟩; refine of_stopT ?_))
      unfold StopT
      have BR2 : Hid (Below wr.heap.size wr w2) := below_stepR B1.out B1.out.size hb2
      clear hb2 hme
      have BW2 : Hid (Below w.heap.size w w2) := below_stepR HB.out HB.out.size BR2.out
      have C2 : Hid (w2.heap[w.heap.size]? = some (.cells (cv V M) 26 (0, 0))) := (BR2.out.block _ (Array.getElem?_eq_some_iff.1 HZ.out).1).trans HZ.out
      rcases Bool.eq_false_or_eq_true (meets r.cube.1 r.cube.2 V M) with hm | hm
      · have HMR : Hid (mR V M r = true) := hm
        rw [meetR_yes _ _ _ _ hm]
        have hok := meet_ok r.cube.1 r.cube.2 V M r.order r.action
        have HFR : Hid (fR V M r = (meetV r.cube.1 r.cube.2 V M == V && meetM r.cube.2 M == M)) := rfl
        obtain ⟨V2, hV2⟩ : ∃ V2, V2 = meetV r.cube.1 r.cube.2 V M := ⟨_, rfl⟩
        obtain ⟨M2, hM2⟩ : ∃ M2, M2 = meetM r.cube.2 M := ⟨_, rfl⟩
        rw [← hV2, ← hM2] at hok HFR
        rw [← hV2, ← hM2]
        have lv : V2.length = 13 := hok.1.1
        have lm : M2.length = 13 := hok.2.1
        clear hV2 hM2 hm hok
        obtain ⟨w3, hw3⟩ : ∃ w3, w3 = w2.alloc (.cells (cv V2 M2) 26) := ⟨_, rfl⟩
        have Y3 : Hid (w3.heap[w2.heap.size]? = some (.cells (cv V2 M2) 26 (0, 0))) := by show _ = _; rw [hw3]; exact heap_new _ _ _ rfl
        have C3 : Hid (w3.heap[w.heap.size]? = some (.cells (cv V M) 26 (0, 0))) := by show _ = _; rw [hw3]; exact heap_past _ _ _ _ C2.out
        have B3 : Hid (Below w.heap.size w w3) := by show Below _ _ _; rw [hw3]; exact BW2.out.alloc BW2.out.size _
        go_wp2_with (first | ((with_reducible refine wl_gSC12 _ _ rfl ?_); refine wl_storeC rfl _ _ rfl w2.heap.size V2 M2 rfl rfl _ (heap_new _ _ _ rfl) rfl lv lm _ (setRow_new _ _ _ _ _ rfl) ?_; refine of_stopT ?_))
        unfold StopT
        rw [← hw3]
        clear hw3
        have EQ : ∀ W, (Op.equalIn 10000 26 (.agg (cv V2 M2)) (.agg (cv V M))).run Try.prog W = .ok (V2 == V && M2 == M) W := fun W => eqC _ _ _ _ lv lm hVl hMl W
        have G := egC
        obtain ⟨bq, hbq⟩ : ∃ bq, bq = (V2 == V && M2 == M) := ⟨_, rfl⟩
        rw [← hbq] at EQ HFR
        clear hbq
        rcases Bool.eq_false_or_eq_true bq with hb | hb
        · subst hb
          have EN : Hid (needF (mR V M) (fR V M) l = m + 1) := by show _ = _; rw [NS.out k r HX.out HP.out HMR.out HFR.out, HC.out]
          go_wp2_with (first | ((with_reducible refine wl_gC12 _ rfl ?_); (first | refine wl_loadCw rfl _ rfl w2.heap.size 0 rfl _ _ _ V2 M2 lv lm Y3.out (own_cells _ _) ?_ | refine wl_loadCw rfl _ rfl w.heap.size 0 rfl _ _ _ V M hVl hMl C3.out (own_cells _ _) ?_)))
          go_ret
          exact ⟨by rw [EN.out]; first | rfl | simp, B3.out⟩
        · subst hb
          have HC2 : Hid (m + 1 = (l.take (k + 1)).countP (mR V M)) := by show _ = _; rw [CT.out, HMR.out]; rfl
          have HP2 : Hid (∀ j x, j < k + 1 → l[j]? = some x → mR V M x = true → fR V M x = false) := by
            intro j x hj hx hmx
            by_cases e : j = k
            · subst e; rw [HX.out] at hx; cases hx; exact HFR.out
            · exact HP.out j x (by omega) hx hmx
          go_wp2_with (first | ((with_reducible refine wl_gC12 _ rfl ?_); (first | refine wl_loadCw rfl _ rfl w2.heap.size 0 rfl _ _ _ V2 M2 lv lm Y3.out (own_cells _ _) ?_ | refine wl_loadCw rfl _ rfl w.heap.size 0 rfl _ _ _ V M hVl hMl C3.out (own_cells _ _) ?_)))
          go_roundw
          case rel => exact ⟨k + 1, m + 1, by omega, by go_num, by go_num, by omega, HC2, HP2, C3, B3⟩
          case measure => simp [intOf]; omega
      · have HMR : Hid (mR V M r = false) := hm
        rw [meetR_no _ _ _ _ hm]
        clear hm
        have HC2 : Hid (m = (l.take (k + 1)).countP (mR V M)) := by show _ = _; rw [CT.out, HMR.out]; rfl
        have HP2 : Hid (∀ j x, j < k + 1 → l[j]? = some x → mR V M x = true → fR V M x = false) := by
          intro j x hj hx hmx
          by_cases e : j = k
          · subst e; rw [HX.out] at hx; cases hx; rw [HMR.out] at hmx; cases hmx
          · exact HP.out j x (by omega) hx hmx
        go_wp2_with (first | ((with_reducible refine wl_gSC12 _ _ rfl ?_); refine wl_storeC rfl _ _ rfl w2.heap.size Z Z rfl rfl _ (heap_new _ _ _ rfl) rfl Z_byt.1 Z_byt.1 _ (setRow_new _ _ _ _ _ rfl) ?_))
        go_roundw
        case rel => exact ⟨k + 1, m, by omega, by go_num, rfl, by omega, HC2, HP2, heap_past _ _ _ _ C2.out, BW2.out.alloc BW2.out.size _⟩
        case measure => simp [intOf]; omega
    · have hlt' : ¬ (k : Int) < (n : Int) := by omega
      have EN : Hid (needF (mR V M) (fR V M) l = m) := by
        show _ = _
        rw [NA.out (fun j x hj => HP.out j x (by omega)), HC.out, List.take_of_length_le (by have := HN.out; omega)]
      go_wp2_with fail
      go_ret
      exact ⟨by rw [EN.out]; rfl, HB.out⟩
end Go.Proofs.Ytbhnjhiecoapbaa
namespace Go.Proofs.Ytbhnjhiecoapbaa
open Go Go.Lib Go.RowKit Ieee
set_option maxRecDepth 20000

theorem bits_run (x : Nat) (w : World) : (callFunc 52 #[.float .f64 x]).run Try.prog w = .ok (.value (.int .u64 x)) w := by
  rw [run_callFunc_extern (e := Extern.MathFloatBits.float64bits) Try.func52 (by kernel_rfl) (by kernel_rfl) (by kernel_rfl) (by kernel_rfl)]
  rfl
theorem frombits_run (n : Int) (w : World) : (callFunc 53 #[.int .u64 n]).run Try.prog w = .ok (.value (.float .f64 n.toNat)) w := by
  rw [run_callFunc_extern (e := Extern.MathFloatBits.float64frombits) Try.func53 (by kernel_rfl) (by kernel_rfl) (by kernel_rfl) (by kernel_rfl)]
  rfl
theorem cast_beq (a b : Nat) : (((a : Nat) : Int) == ((b : Nat) : Int)) = decide (a = b) := by rw [Bool.eq_iff_iff]; simp; omega
theorem rclean_any (x : Nat) (hx : Wd x) (w : World) : Calls Try.prog 33 #[.float .f64 x] w fun e w' => e = .returned (.float .f64 (cleanT x)) ∧ w' = w := by
  have h1 := bits_run x
  have h2 := frombits_run
  have hx' := (wd_iff x).1 hx
  clear hx
  by_cases c1 : 9223372036854775808 ≤ x
  · have h3 : (x : Int) / 9223372036854775808 = 1 := by omega
    have HV : Hid (cleanT x = 0) := by show _ = _; unfold cleanT; rw [d_sw, if_pos (.inl c1)]
    clear c1 hx'
    go_enter Try.func33, Try.ntmps33
    go_wp2
    go_ret
    exact ⟨by rw [HV.out]; rfl, rfl⟩
  · have h3 : (x : Int) / 9223372036854775808 = 0 := by omega
    by_cases c2 : 9218868437227405312 < x
    · have h4 : (9218868437227405312 : Int) < (x : Int) := by omega
      have HV : Hid (cleanT x = 0) := by show _ = _; unfold cleanT; rw [d_inf, if_pos (.inr c2)]
      clear c1 c2 hx'
      go_enter Try.func33, Try.ntmps33
      go_wp2
      go_ret
      exact ⟨by rw [HV.out]; rfl, rfl⟩
    · have h4 : ¬ (9218868437227405312 : Int) < (x : Int) := by omega
      have hr := cleanT_rung x (by rw [d_inf]; omega)
      by_cases c3 : 9218868437227405311 < x
      · have h5 : (9218868437227405311 : Int) < (x : Int) := by omega
        have HV : Hid (cleanT x = 9218868437227405311) := by show _ = _; rw [hr]; unfold MAXR; omega
        clear c1 c2 c3 hx' hr
        go_enter Try.func33, Try.ntmps33
        go_wp2
        go_ret
        exact ⟨by rw [HV.out]; rfl, rfl⟩
      · have h5 : ¬ (9218868437227405311 : Int) < (x : Int) := by omega
        have HV : Hid (cleanT x = x) := by show _ = _; rw [hr]; unfold MAXR; omega
        clear c1 c2 c3 hx' hr
        go_enter Try.func33, Try.ntmps33
        go_wp2
        go_ret
        exact ⟨by rw [HV.out]; rfl, rfl⟩
theorem rplace_any (x : Nat) (hx : Wd x) (w : World) : Calls Try.prog 54 #[.float .f64 x] w fun e w' => e = .returned (.int .i64 (placeT x)) ∧ w' = w := by
  have h1 := bits_run x
  have hx' := (wd_iff x).1 hx
  obtain ⟨r, hr⟩ : ∃ r, r = x % 9223372036854775808 := ⟨_, rfl⟩
  obtain ⟨z, hz⟩ : ∃ z, z = 2 * r := ⟨_, rfl⟩
  have h4 : IntKind.u64.wrap ((x : Int) * 2) = (z : Int) := by rw [IntKind.wrap_u64]; omega
  have h5 : (z : Int) / 2 = (r : Int) := by omega
  have h6 : wrap64 (r : Int) = (r : Int) := by unfold wrap64; omega
  have h7 : wrap64 (-(r : Int)) = -(r : Int) := by unfold wrap64; omega
  by_cases c1 : 9218868437227405312 < r
  · have h8 : (18437736874454810624 : Int) < (z : Int) := by omega
    have HV : Hid (placeT x = 9223372036854775807) := placeT_nan x ((nan_iff x).2 (by rw [d_inf, d_sw, ← hr]; exact c1))
    clear c1 hx' hx hr hz
    go_enter Try.func54, Try.ntmps54
    go_wp2
    go_ret
    exact ⟨by rw [HV.out]; rfl, rfl⟩
  · have h8 : ¬ (18437736874454810624 : Int) < (z : Int) := by omega
    have hp := placeT_num x ((num_iff x).2 (by rw [d_inf, d_sw, ← hr]; omega))
    unfold plc at hp
    rw [d_sw] at hp
    by_cases c2 : 9223372036854775808 ≤ x
    · have h3 : (x : Int) / 9223372036854775808 = 1 := by omega
      have HV : Hid (placeT x = -(r : Int)) := by show _ = _; rw [hp, if_pos c2]; omega
      clear c1 c2 hx' hx hr hz hp
      go_enter Try.func54, Try.ntmps54
      go_wp2
      go_ret
      exact ⟨by rw [HV.out]; rfl, rfl⟩
    · have h3 : (x : Int) / 9223372036854775808 = 0 := by omega
      have h9 : wrap64 (x : Int) = (x : Int) := by unfold wrap64; omega
      have HV : Hid (placeT x = (x : Int)) := by show _ = _; rw [hp, if_neg c2]
      clear c1 c2 hx' hx hr hz hp
      go_enter Try.func54, Try.ntmps54
      go_wp2
      go_ret
      exact ⟨by rw [HV.out]; rfl, rfl⟩
theorem rless_any (x y : Nat) (hx : Wd x) (hy : Wd y) (w : World) : Calls Try.prog 34 #[.float .f64 x, .float .f64 y] w fun e w' => e = .returned (.bool (decide (placeT x < placeT y))) ∧ w' = w := by
  have HP : Hid (∀ x W, Wd x → Calls Try.prog 54 #[.float .f64 x] W fun e w' => e = .returned (.int .i64 (placeT x)) ∧ w' = W) := fun x W h => rplace_any x h W
  have HX : Hid (Wd x) := hx
  have HY : Hid (Wd y) := hy
  clear hx hy
  go_enter Try.func34, Try.ntmps34
  go_wp2_with (go_at_call 54; refine (HP.out _ _ (by first | exact HX.out | exact HY.out)).mono ?_; rintro e w' ⟨rfl, rfl⟩)
  go_ret
  exact ⟨by simp, rfl⟩
end Go.Proofs.Ytbhnjhiecoapbaa
namespace Go.Proofs.Ytbhnjhiecoapbaa
open Go Go.Lib Go.RowKit Ieee
set_option maxRecDepth 20000

theorem foi (n : Int) (h : 0 ≤ n) : floatOfInt .f64 n = intF n.toNat := by
  have e : floatOfInt .f64 n = double.write (.number (decide (n < 0)) n.natAbs 0) := rfl
  rw [e, decide_eq_false (by omega), write_int, show n.natAbs = n.toNat by omega]
theorem addF (P : Program) (x y : Nat) (hx : x < double.infRung) (hy : y < double.infRung) (t : TypeId) (W : World) : (binOp .add t (.float .f64 x) (.float .f64 y)).run P W = .ok (.float .f64 (addR x y)) W := run_float_arith W .add t .f64 x y _ (add_eq x y hx hy)
theorem mulF (P : Program) (x y : Nat) (hx : x < double.infRung) (hy : y < double.infRung) (t : TypeId) (W : World) : (binOp .mul t (.float .f64 x) (.float .f64 y)).run P W = .ok (.float .f64 (mulR x y)) W := run_float_arith W .mul t .f64 x y _ (mul_eq x y hx hy)
theorem halfM (P : Program) (x : Nat) (hx : x < double.infRung) (t : TypeId) (W : World) : (binOp .mul t (.float .f64 x) (.float .f64 4602678819172646912)).run P W = .ok (.float .f64 (halfR x)) W := run_float_arith W .mul t .f64 x _ _ (mul_half x hx)
theorem halfD (P : Program) (x : Nat) (hx : x < double.infRung) (t : TypeId) (W : World) : (binOp .quo t (.float .f64 x) (.float .f64 4611686018427387904)).run P W = .ok (.float .f64 (halfR x)) W := run_float_arith W .quo t .f64 x _ _ (div_two x hx)
theorem int_lt (n : Int) (h : n ≤ 9223372036854775807) : intF n.toNat < double.infRung := intF_lt _ (by omega)
theorem wd_lt {x : Nat} (h : x < double.infRung) : Wd x := wd_rung (Nat.le_of_lt h)
theorem wd_clean (x : Nat) : Wd (cleanT x) := wd_lt (cleanT_lt x)
end Go.Proofs.Ytbhnjhiecoapbaa
namespace Go.Proofs.Ytbhnjhiecoapbaa
open Go Go.Lib Go.RowKit Ieee
set_option maxRecDepth 20000

/-! The cost of a bit. -/
theorem read_inf : double.read double.infRung = .infinity false := by rw [d_inf]; decide
theorem write_inf : double.write (.infinity false) = double.infRung := by rw [d_inf]; decide
theorem add_inf (x : Nat) (hx : x < double.infRung) : double.add x double.infRung = some double.infRung := by
  obtain ⟨m, i, e1, _⟩ := read_rung double x hx
  unfold Format.add
  rw [e1, read_inf]
  show (some (Datum.infinity false)).map double.write = _
  rw [Option.map_some, write_inf]
/-- A sum whose second part may be infinite. -/
def sumR (x y : Nat) : Nat := if y < double.infRung then addR x y else double.infRung
theorem sumR_le (x y : Nat) : sumR x y ≤ double.infRung := by
  unfold sumR
  split
  · exact addR_le _ _
  · exact Nat.le_refl _
theorem sumF (P : Program) (x y : Nat) (hx : x < double.infRung) (hy : y ≤ double.infRung) (t : TypeId) (W : World) : (binOp .add t (.float .f64 x) (.float .f64 y)).run P W = .ok (.float .f64 (sumR x y)) W := by
  unfold sumR
  by_cases h : y < double.infRung
  · rw [if_pos h]; exact addF P x y hx h t W
  · rw [if_neg h]
    have e : y = double.infRung := by omega
    subst e
    exact run_float_arith W .add t .f64 x _ _ (add_inf x hx)
def costC (g s b : Nat) : Nat := sumR (intF g) (mulR (cleanT b) (intF s))
theorem costC_wd (g s b : Nat) : Wd (costC g s b) := wd_rung (sumR_le _ _)
theorem costC_any (g s b : Nat) (hg : g ≤ 1000000) (hs : s ≤ 1000000) (hb : Wd b) (w : World) : Calls Try.prog 28 #[.int .i64 (g : Int), .int .i64 (s : Int), .float .f64 b] w fun e w' => e = .returned (.float .f64 (costC g s b)) ∧ w' = w := by
  have HC : Hid (∀ x W, Wd x → Calls Try.prog 46 #[.float .f64 x] W fun e w' => e = .returned (.float .f64 (cleanT x)) ∧ w' = W) := fun x W h => clean_any x h W
  have HX : Hid (Wd b) := hb
  have h1 := foi (s : Int) (by omega)
  have h2 := foi (g : Int) (by omega)
  rw [Int.toNat_natCast] at h1 h2
  have lg : intF g < double.infRung := intF_lt _ (by omega)
  have ls : intF s < double.infRung := intF_lt _ (by omega)
  have h3 := mulF Try.prog (cleanT b) (intF s) (cleanT_lt b) ls
  have h4 := sumF Try.prog (intF g) (mulR (cleanT b) (intF s)) lg (mulR_le _ _)
  have HV : Hid (costC g s b = sumR (intF g) (mulR (cleanT b) (intF s))) := rfl
  generalize costC g s b = R at HV ⊢
  generalize sumR (intF g) (mulR (cleanT b) (intF s)) = T at h4 HV
  generalize mulR (cleanT b) (intF s) = D at h3 h4
  generalize intF g = G at h2 h4
  generalize intF s = S at h1 h3
  clear hg hs hb lg ls
  go_enter Try.func28, Try.ntmps28
  go_wp2_with (go_at_call 46; refine (HC.out _ _ HX.out).mono ?_; rintro e w' ⟨rfl, rfl⟩)
  go_ret
  exact ⟨by rw [HV.out]; rfl, rfl⟩
end Go.Proofs.Ytbhnjhiecoapbaa
