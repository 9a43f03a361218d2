import Derived.Test.YtojhckjdkafpmabJ8
import Derived.Test.YtojhckjdkafpmabJ7
namespace Go.Proofs.Ytojhckjdkafpmab
open Go Go.RowKit
set_option maxRecDepth 20000

theorem find_at {S : Bks} {m : Slt → Bool} {b : Nat} {A D : List Slt} {x : Slt} (h : findT S m = some (b, A, x, D)) : (b = 1 ∨ b = 2 ∨ b = 3) ∧ bankL S b = A ++ x :: D := by
  rcases findT_cases S m with ⟨A', x', D', h1, e⟩ | ⟨_, A', x', D', h1, e⟩ | ⟨_, _, A', x', D', h1, e⟩ | ⟨_, _, _, e⟩
  · rw [h] at e
    simp only [Option.some.injEq, Prod.mk.injEq] at e
    obtain ⟨rfl, rfl, rfl, rfl⟩ := e
    exact ⟨.inl rfl, h1.1⟩
  · rw [h] at e
    simp only [Option.some.injEq, Prod.mk.injEq] at e
    obtain ⟨rfl, rfl, rfl, rfl⟩ := e
    exact ⟨.inr (.inl rfl), h1.1⟩
  · rw [h] at e
    simp only [Option.some.injEq, Prod.mk.injEq] at e
    obtain ⟨rfl, rfl, rfl, rfl⟩ := e
    exact ⟨.inr (.inr rfl), h1.1⟩
  · rw [h] at e; cases e
/-- Where a slot lies. -/
theorem SlotsAt.slot {B : Nat} {w : World} {v : Value} {C A D : List Slt} {x : Slt} (h : SlotsAt B w v C) (hC : C = A ++ x :: D) : ∃ gb n cap, v = .slice (some ⟨gb, 0, none⟩) n cap ∧ v.ownBlock = some gb ∧ ∀ W : World, W.heap[gb]? = w.heap[gb]? → (loadVar 27 ⟨gb, A.length * 36, none⟩).run Try.prog W = .ok (.agg (slotV x)) W ∧ SlF W gb (A.length * 36) x ∧ ∀ k, W.frozen? ⟨gb, k, none⟩ = false := by
  have hk : C[A.length]? = some x := by rw [hC]; simp
  obtain ⟨h1, ⟨e, h0⟩ | ⟨gb, cap, cur, e, hB, hcur, h3, h4, h5, h6⟩⟩ := h
  · rw [hC] at h0; simp at h0
  · refine ⟨gb, _, cap, e, by rw [e]; rfl, fun W hW => ?_⟩
    have hg := hW.trans hcur
    exact ⟨ld_row hg (row_at hcur h6 _ x hk), slf_of hg (row_at hcur h6 _ x hk), fun k => by simp [World.frozen?, hg]⟩
theorem flat_set {enc : Slt → List Value} {q : Nat} (hq : ∀ c, (enc c).length = q) {A D : List Slt} {x y : Slt} {j : Nat} (hj : j < q) {u : Value} (hy : enc y = (enc x).set j u) : ((A ++ x :: D).flatMap enc).set (A.length * q + j) u = (A ++ y :: D).flatMap enc := by
  have gl : (A.flatMap enc).length = A.length * q := by
    induction A with
    | nil => simp
    | cons c A ih => rw [List.flatMap_cons, List.length_append, ih, hq, List.length_cons, Nat.add_mul, Nat.one_mul, Nat.add_comm]
  rw [List.flatMap_append, List.flatMap_cons, List.flatMap_append, List.flatMap_cons, List.set_append_right _ _ (by omega), gl, Nat.add_sub_cancel_left, List.set_append_left _ _ (by rw [hq]; exact hj), hy]
theorem slotV_set (x : Slt) (j : Nat) (u : Value) (y : Slt) (h : slotV y = (slotV x).setIfInBounds j u) : (slotV y).toList = (slotV x).toList.set j u := by rw [h, Array.toList_setIfInBounds]
theorem arr_set (P T : Array Value) (n j : Nat) (u : Value) (h : n = P.size + j) : (P ++ T).setIfInBounds n u = P ++ T.setIfInBounds j u := by
  subst h
  apply Array.ext'
  rw [Array.toList_setIfInBounds, Array.toList_append, Array.toList_append, Array.toList_setIfInBounds, List.set_append_right _ _ (by rw [Array.length_toList]; omega), Array.length_toList, Nat.add_sub_cancel_left]
theorem slotV_count (x : Slt) (c : Int) : slotV { x with count := c } = (slotV x).setIfInBounds 35 (.int .i64 c) := by
  unfold slotV
  rw [arr_set _ _ 35 5 _ (by rw [Array.size_append, cv_size _ _ (pad_len _) (pad_len _)]; rfl)]
  rfl
theorem slotV_used (x : Slt) (c : Int) : slotV { x with used := c } = (slotV x).setIfInBounds 34 (.int .i64 c) := by
  unfold slotV
  rw [arr_set _ _ 34 4 _ (by rw [Array.size_append, cv_size _ _ (pad_len _) (pad_len _)]; rfl)]
  rfl
/-- One field of a slot is stored. -/
theorem SlotsAt.field {B : Nat} {w : World} {gb n cap : Nat} {C A D : List Slt} {x y : Slt} {j : Nat} {u : Value} (h : SlotsAt B w (.slice (some ⟨gb, 0, none⟩) n cap) C) (hC : C = A ++ x :: D) (hj : j < 36) (hy : slotV y = (slotV x).setIfInBounds j u) :
    SlotsAt B (w.setCell ⟨gb, A.length * 36 + j, none⟩ u) (.slice (some ⟨gb, 0, none⟩) n cap) (A ++ y :: D) ∧ Kept (isB gb) w (w.setCell ⟨gb, A.length * 36 + j, none⟩ u) := by
  have hl : n = C.length := by
    obtain ⟨o, cap', e, _⟩ := h.slice
    simp only [Value.slice.injEq] at e
    exact e.2.1
  subst hl
  obtain ⟨h1, h2⟩ := World.ownsRow.stored h (A.length * 36 + j) u
  refine ⟨?_, Kept.of_grown h2 fun k e => by simp only [Option.some.injEq] at e; exact e.symm⟩
  have e1 : (A ++ y :: D).length = C.length := by rw [hC]; simp
  unfold SlotsAt
  rw [e1]
  have e2 : gcells slotV (A ++ y :: D) = (gcells slotV C).set (A.length * 36 + j) u := by
    rw [hC]
    exact (flat_set (enc := fun c => (slotV c).toList) (q := 36) (fun c => by rw [Array.length_toList, slotV_size]) hj (slotV_set x j u y hy)).symm
  rw [e2]
  exact h1
/-- A bank's row has changed in place. -/
theorem TabV.row {B : Nat} {w w' : World} {g : Nat} {R : Rm} {S : Bks} {v1 v2 v3 : Value} (h : TabV B w g R S v1 v2 v3) (b : Nat) (hb : b = 1 ∨ b = 2 ∨ b = 3) (l : List Slt) (hk : Kept (rowX (bankV v1 v2 v3 b)) w w') (hu : SlotsAt B w' (bankV v1 v2 v3 b) l) : TabTo B w w' g R (putB S b l) v1 v2 v3 := by
  have hgx : ¬ rowX (bankV v1 v2 v3 b) g := (h.bank b).ty h.blk (by decide)
  have hbk := hk.heap h.blk hgx
  have hKf : Kept (footT g v1 v2 v3) w w' := by
    refine hk.mono fun k _ e => ?_
    rcases hb with rfl | rfl | rfl
    · exact .inr (.inl e)
    · exact .inr (.inr (.inl e))
    · exact .inr (.inr (.inr e))
  rcases hb with rfl | rfl | rfl
  · exact ⟨v1, v2, v3, ⟨hbk, hu, h.o2.kept hk fun k e e' => h.a12.ne k e' e, h.o3.kept hk fun k e e' => h.a13.ne k e' e, h.a12, h.a13, h.a23, h.hB⟩, hKf, fun k hk => .inl hk⟩
  · exact ⟨v1, v2, v3, ⟨hbk, h.o1.kept hk fun k e e' => h.a12.ne k e e', hu, h.o3.kept hk fun k e e' => h.a23.ne k e' e, h.a12, h.a13, h.a23, h.hB⟩, hKf, fun k hk => .inl hk⟩
  · exact ⟨v1, v2, v3, ⟨hbk, h.o1.kept hk fun k e e' => h.a13.ne k e e', h.o2.kept hk fun k e e' => h.a23.ne k e e', hu, h.a12, h.a13, h.a23, h.hB⟩, hKf, fun k hk => .inl hk⟩
set_option maxHeartbeats 8000000 in
theorem peek_any (B : Nat) (w : World) (g : Nat) (R : Rm) (S : Bks) (v1 v2 v3 : Value) (h : TabV B w g R S v1 v2 v3) (e : Int) (H : List Int) (hH : Byt H) (hz : ∀ x ∈ S.c, x.order = 0) (hok : ∀ b, ∀ x ∈ bankL S b, OkC x.cube) :
    Calls Try.prog 7 #[.pointer (some ⟨g, 0, none⟩), .int .i64 e, .agg (hv H)] w fun r w' => r = .returned (.tuple #[.agg (slotV (peekT S (mtS hsC e H)).1), .bool (peekT S (mtS hsC e H)).2]) ∧ Below w.heap.size w w' := by
  have HHl := hH.1
  have FI : Hid (∀ W, Below w.heap.size w W → Calls Try.prog 22 #[.pointer (some ⟨g, 0, none⟩), .int .i64 e, .agg (hv H)] W fun r w' => r = .returned (findP S (mtS hsC e H) v1 v2 v3) ∧ Below W.heap.size W w') := by
    intro W hb
    exact find_any B W g R S v1 v2 v3 (h.below hb) e H hH hz hok
  have B0 : Hid (Below w.heap.size w ((w.alloc (.cells (hv H) 23)).alloc (.cells (slotV zeroS) 27))) := ((Below.refl _ _).alloc (Nat.le_refl _) _).alloc (by simp) _
  have H0 : Hid (((w.alloc (.cells (hv H) 23)).alloc (.cells (slotV zeroS) 27)).heap[w.heap.size]? = some (.cells (hv H) 23 (0, 0))) := heap_past _ _ _ _ (heap_new _ _ _ rfl)
  have Z0 : Hid (((w.alloc (.cells (hv H) 23)).alloc (.cells (slotV zeroS) 27)).heap[w.heap.size + 1]? = some (.cells (slotV zeroS) 27 (0, 0))) := heap_new _ _ _ (by simp)
  cases hf : findT S (mtS hsC e H) with
  | none =>
    have e1 : findP S (mtS hsC e H) v1 v2 v3 = .pointer none := by unfold findP; rw [hf]
    have e2 : Hid (peekT S (mtS hsC e H) = (zeroS, false)) := by show _ = _; unfold peekT; rw [hf]
    rw [e1] at FI
    clear h hz hok hH hf e1
    go_enter Try.func7, Try.ntmps7
    go_wp2_with (first | ((with_reducible refine wl_gA rfl ?_); refine wl_allocS rfl rfl ?_; try rw [sz_alloc]) | ((with_reducible refine wl_gH _ rfl ?_); refine wl_loadHg rfl _ rfl w.heap.size rfl H H0.out HHl ?_) | (go_at_call 22; refine (FI.out _ B0.out).mono ?_; rintro r w1 ⟨rfl, hb1⟩; have B1 : Hid (Below w.heap.size w w1) := below_step B0.out B0.out.size hb1; have Z1 : Hid (w1.heap[w.heap.size + 1]? = some (.cells (slotV zeroS) 27 (0, 0))) := (hb1.block _ (by simp)).trans Z0.out; clear hb1; refine of_stopS ?_))
    unfold StopS
    go_wp2_with (first | ((with_reducible refine wl_gZ rfl ?_); refine wl_buildS rfl rfl ?_) | ((with_reducible refine wl_gS _ _ rfl ?_); refine wl_storeS rfl _ _ rfl (w.heap.size + 1) zeroS zeroS rfl rfl Z1.out _ rfl ?_))
    refine ret2S (p := 6) (q := 7) rfl rfl (w.heap.size + 1) rfl zeroS (setRow_heap _ _ _ _ _ _ Z1.out) _ rfl ?_
    rw [e2.out]
    exact ⟨rfl, below_setRow B1.out (by omega) _⟩
  | some r =>
    obtain ⟨b, A, x, D⟩ := r
    obtain ⟨_, hC⟩ := find_at hf
    obtain ⟨gb, n, cap, ev, eo, hl⟩ := (h.bank b).slot hC
    have e1 : findP S (mtS hsC e H) v1 v2 v3 = .pointer (some ⟨gb, A.length * 36, none⟩) := by unfold findP; rw [hf]; simp only [eo, Option.getD_some]
    have e2 : Hid (peekT S (mtS hsC e H) = (x, true)) := by show _ = _; unfold peekT; rw [hf]
    have hgb : gb < w.heap.size := ((h.bank b).lt gb eo).2
    have LD : Hid (∀ W, Below w.heap.size w W → (loadVar 27 ⟨gb, A.length * 36, none⟩).run Try.prog W = .ok (.agg (slotV x)) W) := by
      intro W hb
      exact (hl W (hb.block gb hgb)).1
    rw [e1] at FI
    clear h hz hok hH hf e1 hl hC ev eo
    generalize A.length * 36 = off at FI LD
    go_enter Try.func7, Try.ntmps7
    go_wp2_with (first | ((with_reducible refine wl_gA rfl ?_); refine wl_allocS rfl rfl ?_; try rw [sz_alloc]) | ((with_reducible refine wl_gH _ rfl ?_); refine wl_loadHg rfl _ rfl w.heap.size rfl H H0.out HHl ?_) | (go_at_call 22; refine (FI.out _ B0.out).mono ?_; rintro r w1 ⟨rfl, hb1⟩; have B1 : Hid (Below w.heap.size w w1) := below_step B0.out B0.out.size hb1; have Z1 : Hid (w1.heap[w.heap.size + 1]? = some (.cells (slotV zeroS) 27 (0, 0))) := (hb1.block _ (by simp)).trans Z0.out; clear hb1; refine of_stopS ?_))
    unfold StopS
    go_wp2_with (first | ((with_reducible refine wl_gL _ rfl ?_); refine wl_loadS rfl _ rfl gb off rfl x (LD.out _ B1.out) ?_) | ((with_reducible refine wl_gS _ _ rfl ?_); refine wl_storeS rfl _ _ rfl (w.heap.size + 1) x zeroS rfl rfl Z1.out _ rfl ?_))
    refine ret2S (p := 6) (q := 7) rfl rfl (w.heap.size + 1) rfl x (setRow_heap _ _ _ _ _ _ Z1.out) _ rfl ?_
    rw [e2.out]
    exact ⟨rfl, below_setRow B1.out (by omega) _⟩
theorem below_kept {w W : World} {X : Nat → Prop} (h : Kept X w W) (hX : ∀ k, X k → w.heap.size ≤ k) : Below w.heap.size w W := h.below hX (Nat.le_refl _)
set_option maxHeartbeats 16000000 in
theorem look_any (B : Nat) (w : World) (g : Nat) (R : Rm) (S : Bks) (v1 v2 v3 : Value) (h : TabV B w g R S v1 v2 v3) (now e : Int) (H : List Int) (hH : Byt H) (hz : ∀ x ∈ S.c, x.order = 0) (hok : ∀ b, ∀ x ∈ bankL S b, OkC x.cube ∧ x.bank = (b : Int) ∧ 0 ≤ x.count ∧ x.count ≤ MAXT) :
    Calls Try.prog 6 #[.pointer (some ⟨g, 0, none⟩), .int .i64 now, .int .i64 e, .agg (hv H)] w fun r w' => r = .returned (.tuple #[.agg (slotV (lookT S (mtS hsC e H) now).2.1), .bool (lookT S (mtS hsC e H) now).2.2]) ∧ TabTo B w w' g R (lookT S (mtS hsC e H) now).1 v1 v2 v3 := by
  have HHl := hH.1
  have FI : Hid (∀ W, Below w.heap.size w W → Calls Try.prog 22 #[.pointer (some ⟨g, 0, none⟩), .int .i64 e, .agg (hv H)] W fun r w' => r = .returned (findP S (mtS hsC e H) v1 v2 v3) ∧ Below W.heap.size W w') := by
    intro W hb
    exact find_any B W g R S v1 v2 v3 (h.below hb) e H hH hz fun b x hx => (hok b x hx).1
  have TI : Hid (∀ W, Calls Try.prog 17 #[.int .i64 now] W fun r w' => r = .returned (.int .i64 (timeT now)) ∧ w' = W) := ticks_any now
  have B0 : Hid (Below w.heap.size w ((w.alloc (.cells (hv H) 23)).alloc (.cells (slotV zeroS) 27))) := ((Below.refl _ _).alloc (Nat.le_refl _) _).alloc (by simp) _
  have H0 : Hid (((w.alloc (.cells (hv H) 23)).alloc (.cells (slotV zeroS) 27)).heap[w.heap.size]? = some (.cells (hv H) 23 (0, 0))) := heap_past _ _ _ _ (heap_new _ _ _ rfl)
  have Z0 : Hid (((w.alloc (.cells (hv H) 23)).alloc (.cells (slotV zeroS) 27)).heap[w.heap.size + 1]? = some (.cells (slotV zeroS) 27 (0, 0))) := heap_new _ _ _ (by simp)
  cases hf : findT S (mtS hsC e H) with
  | none =>
    have e1 : findP S (mtS hsC e H) v1 v2 v3 = .pointer none := by unfold findP; rw [hf]
    have e2 : Hid (lookT S (mtS hsC e H) now = (S, zeroS, false)) := by show _ = _; unfold lookT; rw [hf]
    have FT : Hid (∀ w4, Below w.heap.size w w4 → TabTo B w w4 g R S v1 v2 v3) := by
      intro w4 hb
      exact ⟨v1, v2, v3, h.below hb, Kept.of_below hb, fun k hk => .inl hk⟩
    rw [e1] at FI
    clear h hz hok hH hf e1
    go_enter Try.func6, Try.ntmps6
    go_wp2_with (first | ((with_reducible refine wl_gA rfl ?_); refine wl_allocS rfl rfl ?_; try rw [sz_alloc]) | ((with_reducible refine wl_gH _ rfl ?_); refine wl_loadHg rfl _ rfl w.heap.size rfl H H0.out HHl ?_) | (go_at_call 22; refine (FI.out _ B0.out).mono ?_; rintro r w1 ⟨rfl, hb1⟩; have B1 : Hid (Below w.heap.size w w1) := below_step B0.out B0.out.size hb1; have Z1 : Hid (w1.heap[w.heap.size + 1]? = some (.cells (slotV zeroS) 27 (0, 0))) := (hb1.block _ (by simp)).trans Z0.out; clear hb1; refine of_stopS ?_))
    unfold StopS
    go_wp2_with (first | ((with_reducible refine wl_gZ rfl ?_); refine wl_buildS rfl rfl ?_) | ((with_reducible refine wl_gS _ _ rfl ?_); refine wl_storeS rfl _ _ rfl (w.heap.size + 1) zeroS zeroS rfl rfl Z1.out _ rfl ?_))
    refine ret2S (p := 8) (q := 9) rfl rfl (w.heap.size + 1) rfl zeroS (setRow_heap _ _ _ _ _ _ Z1.out) _ rfl ?_
    rw [e2.out]
    exact ⟨rfl, FT.out _ (below_setRow B1.out (by omega) _)⟩
  | some r =>
    obtain ⟨b, A, x, D⟩ := r
    obtain ⟨hb3, hC⟩ := find_at hf
    obtain ⟨gb, n, cap, ev, eo, hl⟩ := (h.bank b).slot hC
    obtain ⟨_, hxb, hc0, hc1⟩ := hok b x (by rw [hC]; simp)
    have e1 : findP S (mtS hsC e H) v1 v2 v3 = .pointer (some ⟨gb, A.length * 36, none⟩) := by unfold findP; rw [hf]; simp only [eo, Option.getD_some]
    have e2 : Hid (lookT S (mtS hsC e H) now = (putB S b (A ++ usedS now b x :: D), usedS now b x, true)) := by show _ = _; unfold lookT; rw [hf]
    have hgb : gb < w.heap.size := ((h.bank b).lt gb eo).2
    have HCN : Hid ((usedS now b x).count = min (x.count + 1) 1099511627776) := by
      show (if x.count < MAXT then x.count + 1 else x.count) = _
      unfold MAXT at hc1 ⊢
      split <;> omega
    obtain ⟨cn, hcn⟩ : ∃ cn, cn = min (x.count + 1) 1099511627776 := ⟨_, rfl⟩
    have LD : Hid (∀ W, Below w.heap.size w W → SlF W gb (A.length * 36) x ∧ (∀ k, W.frozen? ⟨gb, k, none⟩ = false) ∧ SlotsAt B W (.slice (some ⟨gb, 0, none⟩) n cap) (A ++ x :: D)) := by
      intro W hb
      obtain ⟨q1, q2, q3⟩ := hl W (hb.block gb hgb)
      refine ⟨q2, q3, ?_⟩
      have := (h.below hb).bank b
      rw [hC, ev] at this
      exact this
    have FT : Hid (∀ w1 w4, Below w.heap.size w w1 → w.heap.size + 1 < w1.heap.size → Kept (isB gb) w1 w4 → SlotsAt B w4 (.slice (some ⟨gb, 0, none⟩) n cap) (A ++ usedS now b x :: D) → TabTo B w (w4.setRow (w.heap.size + 1) (slotV (usedS now b x))) g R (putB S b (A ++ usedS now b x :: D)) v1 v2 v3) := by
      intro w1 w4 hb hlt hk hs
      have key : ∀ k, isB gb k ↔ rowX (bankV v1 v2 v3 b) k := fun k => by unfold isB rowX; rw [eo]; simp only [Option.some.injEq]; exact ⟨fun e => e.symm, fun e => e.symm⟩
      have ht := (h.below hb).row b hb3 (A ++ usedS now b x :: D) (hk.mono fun k _ e => (key k).1 e) (by rw [ev]; exact hs)
      exact ht.loc h hb (kept_setRow _ _ _) fun k e => by unfold isB at e; omega
    rw [e1] at FI
    clear h hz hok hH hf e1 hl hC ev eo
    obtain ⟨off, hoff⟩ : ∃ off, off = A.length * 36 := ⟨_, rfl⟩
    have HOFF : Hid (off = A.length * 36) := hoff
    rw [← hoff] at FI LD
    clear hoff
    have hx1 : x.count ≤ 1099511627776 := hc1
    have HU : Hid (∀ W, Below w.heap.size w W → SlF W gb off x ∧ (∀ k, W.frozen? ⟨gb, k, none⟩ = false) ∧ SlF (W.setCell ⟨gb, off + 35, none⟩ (.int .i64 (min (x.count + 1) 1099511627776))) gb off { x with count := min (x.count + 1) 1099511627776 } ∧ (∀ k, (W.setCell ⟨gb, off + 35, none⟩ (.int .i64 (min (x.count + 1) 1099511627776))).frozen? ⟨gb, k, none⟩ = false) ∧ (loadVar 27 ⟨gb, off, none⟩).run Try.prog (W.setCell ⟨gb, off + 35, none⟩ (.int .i64 (min (x.count + 1) 1099511627776))) = .ok (.agg (slotV { x with count := min (x.count + 1) 1099511627776 })) (W.setCell ⟨gb, off + 35, none⟩ (.int .i64 (min (x.count + 1) 1099511627776))) ∧ SlotsAt B (W.setCell ⟨gb, off + 35, none⟩ (.int .i64 (min (x.count + 1) 1099511627776))) (.slice (some ⟨gb, 0, none⟩) n cap) (A ++ { x with count := min (x.count + 1) 1099511627776 } :: D) ∧ Kept (isB gb) W (W.setCell ⟨gb, off + 35, none⟩ (.int .i64 (min (x.count + 1) 1099511627776))) ∧ (loadVar 27 ⟨gb, off, none⟩).run Try.prog ((W.setCell ⟨gb, off + 35, none⟩ (.int .i64 (min (x.count + 1) 1099511627776))).setCell ⟨gb, off + 34, none⟩ (.int .i64 (timeT now))) = .ok (.agg (slotV { x with count := min (x.count + 1) 1099511627776, used := timeT now })) ((W.setCell ⟨gb, off + 35, none⟩ (.int .i64 (min (x.count + 1) 1099511627776))).setCell ⟨gb, off + 34, none⟩ (.int .i64 (timeT now))) ∧ SlotsAt B ((W.setCell ⟨gb, off + 35, none⟩ (.int .i64 (min (x.count + 1) 1099511627776))).setCell ⟨gb, off + 34, none⟩ (.int .i64 (timeT now))) (.slice (some ⟨gb, 0, none⟩) n cap) (A ++ { x with count := min (x.count + 1) 1099511627776, used := timeT now } :: D) ∧ Kept (isB gb) W ((W.setCell ⟨gb, off + 35, none⟩ (.int .i64 (min (x.count + 1) 1099511627776))).setCell ⟨gb, off + 34, none⟩ (.int .i64 (timeT now)))) := by
      intro W hb
      obtain ⟨q1, q2, q3⟩ := LD.out W hb
      have ho := HOFF.out
      rw [ho] at q1 ⊢
      obtain ⟨r1, r2⟩ := q3.field rfl (by decide) (slotV_count x (min (x.count + 1) 1099511627776))
      obtain ⟨g2, n2, cap2, ev2, _, hl2⟩ := r1.slot rfl
      simp only [Value.slice.injEq, Option.some.injEq, Addr.mk.injEq, and_true] at ev2
      obtain ⟨rfl, _⟩ := ev2
      obtain ⟨s1, s2, s3⟩ := hl2 _ rfl
      obtain ⟨t1, t2⟩ := r1.field (y := { x with count := min (x.count + 1) 1099511627776, used := timeT now }) rfl (by decide) (slotV_used { x with count := min (x.count + 1) 1099511627776 } (timeT now))
      obtain ⟨g3, n3, cap3, ev3, _, hl3⟩ := t1.slot rfl
      simp only [Value.slice.injEq, Option.some.injEq, Addr.mk.injEq, and_true] at ev3
      obtain ⟨rfl, _⟩ := ev3
      obtain ⟨p1, p2, p3⟩ := hl3 _ rfl
      exact ⟨q1, q2, s2, s3, s1, r1, r2, p1, t1, r2.trans t2 fun k hk => .inl hk⟩
    have USE : Hid (usedS now b x = if b = 1 then { x with count := min (x.count + 1) 1099511627776, used := timeT now } else { x with count := min (x.count + 1) 1099511627776 }) := by
      show _ = _
      have hcn' := HCN.out
      have e3 : (if x.count < MAXT then x.count + 1 else x.count) = min (x.count + 1) 1099511627776 := hcn'
      unfold usedS
      rw [e3]
      by_cases h1 : b = 1
      · rw [if_pos h1, if_pos h1]
      · rw [if_neg h1, if_neg h1]
    clear LD HCN hcn hc1
    go_enter Try.func6, Try.ntmps6
    go_wp2_with (first | ((with_reducible refine wl_gA rfl ?_); refine wl_allocS rfl rfl ?_; try rw [sz_alloc]) | ((with_reducible refine wl_gH _ rfl ?_); refine wl_loadHg rfl _ rfl w.heap.size rfl H H0.out HHl ?_) | (go_at_call 22; refine (FI.out _ B0.out).mono ?_; rintro r w1 ⟨rfl, hb1⟩; have B1 : Hid (Below w.heap.size w w1) := below_step B0.out B0.out.size hb1; have SZ1 : Hid (w.heap.size + 1 < w1.heap.size) := (by have h1 := hb1.size; show _ < _; simp at h1; omega); have Z1 : Hid (w1.heap[w.heap.size + 1]? = some (.cells (slotV zeroS) 27 (0, 0))) := (hb1.block _ (by simp)).trans Z0.out; clear hb1; refine of_stopS ?_))
    unfold StopS
    obtain ⟨q1, q2, s2, s3, s1, r1, r2, p1, t1, t2⟩ := HU.out w1 B1.out
    have c35 := q1.c35
    have f35 := q2 (off + 35)
    have c0 := s2.c0
    have c34 := s2.c34
    have f34 := s3 (off + 34)
    have S1 : Hid _ := s1
    have R1 : Hid _ := r1
    have R2 : Hid _ := r2
    have P1 : Hid _ := p1
    have T1 : Hid _ := t1
    have T2 : Hid _ := t2
    have NG : Hid (gb ≠ w.heap.size + 1) := by show _ ≠ _; omega
    clear q1 q2 s2 s3 s1 r1 r2 p1 t1 t2 HU
    simp only at c0 c34
    by_cases hb1 : b = 1
    · have hxb1 : x.bank = 1 := by rw [hxb, hb1]; rfl
      have Z2 : Hid (((w1.setCell ⟨gb, off + 35, none⟩ (.int .i64 (min (x.count + 1) 1099511627776))).setCell ⟨gb, off + 34, none⟩ (.int .i64 (timeT now))).heap[w.heap.size + 1]? = some (.cells (slotV zeroS) 27 (0, 0))) := T2.out.heap Z1.out (fun e => NG.out (by unfold isB at e; exact e.symm))
      have UE : Hid (usedS now b x = { x with count := min (x.count + 1) 1099511627776, used := timeT now }) := USE.out.trans (if_pos hb1)
      have FX : Hid (TabTo B w (((w1.setCell ⟨gb, off + 35, none⟩ (.int .i64 (min (x.count + 1) 1099511627776))).setCell ⟨gb, off + 34, none⟩ (.int .i64 (timeT now))).setRow (w.heap.size + 1) (slotV { x with count := min (x.count + 1) 1099511627776, used := timeT now })) g R (putB S b (A ++ { x with count := min (x.count + 1) 1099511627776, used := timeT now } :: D)) v1 v2 v3) := by
        have h9 := FT.out w1 _ B1.out SZ1.out T2.out (by rw [UE.out]; exact T1.out)
        rw [UE.out] at h9
        exact h9
      rw [hxb1] at c0
      clear hb1 hxb USE FT hxb1
      go_wp2_with (first | (go_at_call 17; refine (TI.out _).mono ?_; rintro r w2 ⟨rfl, rfl⟩) | ((with_reducible refine wl_gL _ rfl ?_); refine wl_loadS rfl _ rfl gb off rfl { x with count := min (x.count + 1) 1099511627776, used := timeT now } P1.out ?_) | ((with_reducible refine wl_gS _ _ rfl ?_); refine wl_storeS rfl _ _ rfl (w.heap.size + 1) { x with count := min (x.count + 1) 1099511627776, used := timeT now } zeroS rfl rfl Z2.out _ rfl ?_))
      refine ret2S (p := 8) (q := 9) rfl rfl (w.heap.size + 1) rfl { x with count := min (x.count + 1) 1099511627776, used := timeT now } (setRow_heap _ _ _ _ _ _ Z2.out) _ rfl ?_
      rw [e2.out, UE.out]
      exact ⟨rfl, FX.out⟩
    · have hxb1 : x.bank ≠ 1 := by rw [hxb]; omega
      have Z2 : Hid ((w1.setCell ⟨gb, off + 35, none⟩ (.int .i64 (min (x.count + 1) 1099511627776))).heap[w.heap.size + 1]? = some (.cells (slotV zeroS) 27 (0, 0))) := R2.out.heap Z1.out (fun e => NG.out (by unfold isB at e; exact e.symm))
      have UE : Hid (usedS now b x = { x with count := min (x.count + 1) 1099511627776 }) := USE.out.trans (if_neg hb1)
      have FX : Hid (TabTo B w ((w1.setCell ⟨gb, off + 35, none⟩ (.int .i64 (min (x.count + 1) 1099511627776))).setRow (w.heap.size + 1) (slotV { x with count := min (x.count + 1) 1099511627776 })) g R (putB S b (A ++ { x with count := min (x.count + 1) 1099511627776 } :: D)) v1 v2 v3) := by
        have h9 := FT.out w1 _ B1.out SZ1.out R2.out (by rw [UE.out]; exact R1.out)
        rw [UE.out] at h9
        exact h9
      clear hb1 hxb USE FT
      go_wp2_with (first | (go_at_call 17; refine (TI.out _).mono ?_; rintro r w2 ⟨rfl, rfl⟩) | ((with_reducible refine wl_gL _ rfl ?_); refine wl_loadS rfl _ rfl gb off rfl { x with count := min (x.count + 1) 1099511627776 } S1.out ?_) | ((with_reducible refine wl_gS _ _ rfl ?_); refine wl_storeS rfl _ _ rfl (w.heap.size + 1) { x with count := min (x.count + 1) 1099511627776 } zeroS rfl rfl Z2.out _ rfl ?_))
      refine ret2S (p := 8) (q := 9) rfl rfl (w.heap.size + 1) rfl { x with count := min (x.count + 1) 1099511627776 } (setRow_heap _ _ _ _ _ _ Z2.out) _ rfl ?_
      rw [e2.out, UE.out]
      exact ⟨rfl, FX.out⟩
end Go.Proofs.Ytojhckjdkafpmab
namespace Go.Proofs.Ytojhckjdkafpmab
open Go Go.RowKit
set_option maxRecDepth 20000

theorem TabTo.step {B : Nat} {w w1 w2 : World} {g : Nat} {R : Rm} {S2 : Bks} {v1 v2 v3 u1 u2 u3 : Value} (hk : Kept (footT g v1 v2 v3) w w1) (hf : ∀ k, footT g u1 u2 u3 k → footT g v1 v2 v3 k ∨ w.heap.size ≤ k) (h2 : TabTo B w1 w2 g R S2 u1 u2 u3) : TabTo B w w2 g R S2 v1 v2 v3 := by
  obtain ⟨t1, t2, t3, a1, a2, a3⟩ := h2
  refine ⟨t1, t2, t3, a1, hk.trans a2 hf, fun k hk' => ?_⟩
  rcases a3 k hk' with e | e
  · exact hf k e
  · exact .inr (Nat.le_trans hk.size e)
/-- The first banks have been gone through. -/
def keepK (S : Bks) (a b : Int) (k : Nat) : Bks := ⟨if 1 < k then S.c.filter (keptE a b) else S.c, if 2 < k then S.a.filter (keptE a b) else S.a, if 3 < k then S.p.filter (keptE a b) else S.p⟩
def goneN (S : Bks) (a b : Int) (k : Nat) : Nat := (if 1 < k then (S.c.filter fun x => !(keptE a b x)).length else 0) + (if 2 < k then (S.a.filter fun x => !(keptE a b x)).length else 0) + (if 3 < k then (S.p.filter fun x => !(keptE a b x)).length else 0)
theorem notnot (q : Slt → Bool) (C : List Slt) : (C.filter fun x => !(!(q x))) = C.filter q := by congr 1; funext x; simp
theorem keepK_step (S : Bks) (a b : Int) (k : Nat) (hk : k < 4) : setL (keepK S a b k) k ((bankL (keepK S a b k) k).filter fun x => !(!(keptE a b x))) = keepK S a b (k + 1) ∧ goneN S a b k + ((bankL (keepK S a b k) k).filter fun x => !(keptE a b x)).length = goneN S a b (k + 1) := by
  rw [notnot]
  rcases (show k = 0 ∨ k = 1 ∨ k = 2 ∨ k = 3 by omega) with rfl | rfl | rfl | rfl
  · exact ⟨rfl, rfl⟩
  · exact ⟨rfl, by simp [goneN, bankL, keepK]⟩
  · exact ⟨rfl, by simp [goneN, bankL, keepK]⟩
  · exact ⟨rfl, by simp [goneN, bankL, keepK]⟩
theorem keepK_len {S : Bks} {a b : Int} {k c : Nat} (h : ∀ c, (bankL S c).length ≤ 1000000) : (bankL (keepK S a b k) c).length ≤ 1000000 := by
  have h1 := h 1
  have h2 := h 2
  have h3 := h 3
  unfold bankL at h1 h2 h3 ⊢
  simp only [if_true, if_false, show ¬ (2 : Nat) = 1 by decide, show ¬ (3 : Nat) = 1 by decide, show ¬ (3 : Nat) = 2 by decide] at h1 h2 h3
  unfold keepK
  simp only
  have f : ∀ C : List Slt, (C.filter (keptE a b)).length ≤ C.length := fun C => List.length_filter_le _ _
  have f1 := f S.c
  have f2 := f S.a
  have f3 := f S.p
  split
  · split <;> omega
  · split
    · split <;> omega
    · split
      · split <;> omega
      · simp
theorem TabV.boxes {B : Nat} {w : World} {g : Nat} {R : Rm} {S : Bks} {v1 v2 v3 : Value} (h : TabV B w g R S v1 v2 v3) {q : Nat} {cs : Array Value} {t : TypeId} {fr : Nat × Nat} (hq : w.heap[q]? = some (.cells cs t fr)) (h1 : t ≠ 27) (h2 : t ≠ 52) : ¬ footT g v1 v2 v3 q := by
  rintro (rfl | e | e | e)
  · rw [h.blk] at hq
    simp only [Option.some.injEq, Obj.cells.injEq] at hq
    exact h2 hq.2.1.symm
  · exact h.o1.ty hq h1 e
  · exact h.o2.ty hq h1 e
  · exact h.o3.ty hq h1 e
theorem bank_foot {g : Nat} {v1 v2 v3 : Value} {b k : Nat} (h : rowX (bankV v1 v2 v3 b) k) : footT g v1 v2 v3 k := by
  unfold rowX bankV at h
  split at h
  · exact .inr (.inl h)
  · split at h
    · exact .inr (.inr (.inl h))
    · split at h
      · exact .inr (.inr (.inr h))
      · cases h
set_option maxHeartbeats 8000000 in
theorem keep_any (B : Nat) (w : World) (g : Nat) (R : Rm) (S : Bks) (v1 v2 v3 : Value) (h : TabV B w g R S v1 v2 v3) (a b : Int) (hn : ∀ c, (bankL S c).length ≤ 1000000) :
    Calls Try.prog 10 #[.pointer (some ⟨g, 0, none⟩), .int .i64 a, .int .i64 b] w fun e w' => e = .returned (.int .i64 (goneN S a b 4 : Nat)) ∧ TabTo B w w' g R (keepT S a b) v1 v2 v3 := by
  have B0 : Hid (Below w.heap.size w ((w.alloc (.cells #[.int .i64 a] 3)).alloc (.cells #[.int .i64 b] 3))) := ((Below.refl _ _).alloc (Nat.le_refl _) _).alloc (by simp) _
  have P0 : Hid (((w.alloc (.cells #[.int .i64 a] 3)).alloc (.cells #[.int .i64 b] 3)).heap[w.heap.size]? = some (.cells #[.int .i64 a] 3 (0, 0))) := heap_past _ _ _ _ (heap_new _ _ _ rfl)
  have P1 : Hid (((w.alloc (.cells #[.int .i64 a] 3)).alloc (.cells #[.int .i64 b] 3)).heap[w.heap.size + 1]? = some (.cells #[.int .i64 b] 3 (0, 0))) := heap_new _ _ _ (by simp)
  have DR : Hid (∀ (k : Nat) (W : World) (u1 u2 u3 : Value), k < 4 → TabV B W g R (keepK S a b k) u1 u2 u3 → W.heap[w.heap.size]? = some (.cells #[.int .i64 a] 3 (0, 0)) → W.heap[w.heap.size + 1]? = some (.cells #[.int .i64 b] 3 (0, 0)) → Calls Try.prog 29 #[.pointer (some ⟨g, 0, none⟩), .int .i64 (k : Int), .func (.func 30) #[] #[.pointer (some ⟨w.heap.size, 0, none⟩), .pointer (some ⟨w.heap.size + 1, 0, none⟩)]] W fun e w' => ∃ u, e = .returned u ∧ (∃ o n c, u = .slice o n c ∧ goneN S a b k + n = goneN S a b (k + 1) ∧ n ≤ 1000000) ∧ TabTo B W w' g R (keepK S a b (k + 1)) u1 u2 u3 ∧ w'.heap[w.heap.size]? = some (.cells #[.int .i64 a] 3 (0, 0)) ∧ w'.heap[w.heap.size + 1]? = some (.cells #[.int .i64 b] 3 (0, 0))) := by
    intro k W u1 u2 u3 hk hT hp0 hp1
    obtain ⟨e1, e2⟩ := keepK_step S a b k hk
    have n0 := hT.boxes hp0 (by decide) (by decide)
    have n1 := hT.boxes hp1 (by decide) (by decide)
    refine (drop_any B W g R _ u1 u2 u3 hT k hk (keepK_len hn) 30 #[.pointer (some ⟨w.heap.size, 0, none⟩), .pointer (some ⟨w.heap.size + 1, 0, none⟩)] (fun x => !(keptE a b x)) (fun vs W => by have hf := Try.func30; simp [go_sem]) (fun y W' hW' => ?_)).mono ?_
    · exact keep1_any y a b W' _ _ _ _ (hW'.heap hp0 fun e => n0 (bank_foot e)) (hW'.heap hp1 fun e => n1 (bank_foot e))
    · rintro e w' ⟨u, rfl, hu, ht⟩
      obtain ⟨o, cap, eu, _⟩ := hu.slice
      rw [e1] at ht
      obtain ⟨t1, t2, t3, a1, a2, a3⟩ := ht
      exact ⟨u, rfl, ⟨o, _, cap, eu, e2, Nat.le_trans (List.length_filter_le _ _) (keepK_len hn)⟩, ⟨t1, t2, t3, a1, a2, a3⟩, a2.heap hp0 n0, a2.heap hp1 n1⟩
  have ST : Hid (∃ u1 u2 u3, TabV B ((w.alloc (.cells #[.int .i64 a] 3)).alloc (.cells #[.int .i64 b] 3)) g R (keepK S a b 0) u1 u2 u3 ∧ Kept (footT g v1 v2 v3) w ((w.alloc (.cells #[.int .i64 a] 3)).alloc (.cells #[.int .i64 b] 3)) ∧ ∀ k, footT g u1 u2 u3 k → footT g v1 v2 v3 k ∨ w.heap.size ≤ k) := ⟨v1, v2, v3, h.below B0.out, Kept.of_below B0.out, fun k hk => .inl hk⟩
  have FE : Hid (keepK S a b 4 = keepT S a b) := rfl
  have GN : Hid (∀ k, goneN S a b k ≤ 3000000) := by
    intro k
    have h1 := hn 1
    have h2 := hn 2
    have h3 := hn 3
    have f : ∀ C : List Slt, (C.filter fun x => !(keptE a b x)).length ≤ C.length := fun C => List.length_filter_le _ _
    have f1 := f S.c
    have f2 := f S.a
    have f3 := f S.p
    unfold bankL at h1 h2 h3
    simp only [if_true, if_false, show ¬ (2 : Nat) = 1 by decide, show ¬ (3 : Nat) = 1 by decide, show ¬ (3 : Nat) = 2 by decide] at h1 h2 h3
    unfold goneN
    split <;> split <;> split <;> omega
  clear h hn
  go_enter Try.func10, Try.ntmps10
  go_wp2_with fail
  go_loopw [7, 12] (fun s7 i wr => ∃ k : Nat, k ≤ 4 ∧ i = .int .i64 (k : Int) ∧ s7 = .int .i64 (goneN S a b k : Nat) ∧ Hid (∃ u1 u2 u3, TabV B wr g R (keepK S a b k) u1 u2 u3 ∧ Kept (footT g v1 v2 v3) w wr ∧ ∀ k, footT g u1 u2 u3 k → footT g v1 v2 v3 k ∨ w.heap.size ≤ k) ∧ Hid (wr.heap[w.heap.size]? = some (.cells #[.int .i64 a] 3 (0, 0))) ∧ Hid (wr.heap[w.heap.size + 1]? = some (.cells #[.int .i64 b] 3 (0, 0)))) (fun _ i _ => 4 - (intOf i).toNat)
  case atStart => exact ⟨0, Nat.zero_le _, rfl, rfl, ST, P0, P1⟩
  case round =>
    obtain ⟨k, hk, rfl, rfl, HS, HP0, HP1⟩ := hrel
    by_cases hlt : k < 4
    · have hlt' : (k : Int) < 4 := by omega
      obtain ⟨u1, u2, u3, hT, hK, hF⟩ := HS.out
      have hdr := DR.out k wr u1 u2 u3 hlt hT HP0.out HP1.out
      have HK : Hid (Kept (footT g v1 v2 v3) w wr) := hK
      have HF : Hid (∀ k, footT g u1 u2 u3 k → footT g v1 v2 v3 k ∨ w.heap.size ≤ k) := hF
      have hgn := GN.out k
      clear hT hK hF
      go_wp2_with (go_at_call 29; refine hdr.mono ?_; rintro e w1 ⟨u, rfl, ⟨o, n, c, rfl, hgk, hnn⟩, ht, hp0, hp1⟩; have HT : Hid _ := ht; have Q0 : Hid _ := hp0; have Q1 : Hid _ := hp1; have HG : Hid (goneN S a b k + n = goneN S a b (k + 1)) := hgk; clear ht hp0 hp1 hgk; refine of_stopS ?_)
      unfold StopS
      go_wp2_with fail
      go_roundw
      case rel =>
        refine ⟨k + 1, by omega, by go_num, ?_, ?_, Q0, Q1⟩
        · rw [← HG.out]; go_num
        · exact TabTo.step HK.out HF.out HT.out
      case measure => simp [intOf]; omega
    · have hlt' : ¬ (k : Int) < 4 := by omega
      obtain rfl : k = 4 := by omega
      have HS2 := HS.out
      rw [FE.out] at HS2
      have HS3 : Hid _ := HS2
      clear HS2
      go_wp2_with fail
      go_ret
      exact ⟨rfl, HS3.out⟩
end Go.Proofs.Ytojhckjdkafpmab
