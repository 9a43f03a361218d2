import Derived.Test.YtfbphblodankmaaWRefT
import Derived.Test.YtfbphblodankmaaWAwake
namespace Go.Proofs.Ytfbphblodankmaa
open Go Go.RowKit
set_option maxRecDepth 20000

theorem wcan_can (V M : List Int) : can (can V M) M = can V M := mk_ext _ _ fun i hi => by
  rw [can_bt _ _ i hi]; cases bt V i <;> cases bt M i <;> rfl
theorem tc_back (L : List UInt8) (C M : List Int) (hC : Byt C) (hM : Byt M) (h : can C M = C) : tcT (L ++ cubeB C M) (L.length : Int) = (C, M, 0) := by
  have l1 : (toB C).length = 13 := by rw [toB_len, hC.1]
  have l2 : (toB M).length = 13 := by rw [toB_len, hM.1]
  have e1 : ((L ++ cubeB C M).drop L.length).take 13 = toB C := by
    unfold cubeB
    rw [List.drop_left, List.take_append_of_le_length (by omega), List.take_of_length_le (by omega)]
  have e2 : ((L ++ cubeB C M).drop (L.length + 13)).take 13 = toB M := by
    unfold cubeB
    rw [← List.append_assoc, List.drop_left' (by rw [List.length_append, l1]), List.take_of_length_le (by omega)]
  unfold tcT
  rw [if_pos (by omega), if_pos (by unfold cubeB; rw [List.length_append, List.length_append, l1, l2]; omega), Int.toNat_natCast, e1, e2, nI_toB hC, nI_toB hM, h, if_pos (by simp)]

theorem wpOp_val {P : Program} {ops : Array Oper} {Q : Exit → Act → World → Prop} {i : Nat} {o : Oper} {K : Act → World → Prop} {a : Act} {w : World} (hi : ops[i]? = some o) (hw : Region.wanted o (yielded ops a.tmps) = true) (v : Value) (hv : (execOp a.eval o).run P w = .ok (.value v) w) (d : Option Tmp) (hd : o.dst = d) (hK : K (a.put d v) w) : wpOp P ops Q i K a w := by
  subst hd
  refine wpOp_wanted hi hw ?_
  unfold Oper.wp
  rw [hv]
  exact hK
theorem tcT_byt (L : List UInt8) (p : Int) : Byt (tcT L p).1 ∧ Byt (tcT L p).2.1 := by
  unfold tcT
  split
  · split
    · rename_i h1 h2
      split
      · refine ⟨nI_byt _ ?_, nI_byt _ ?_⟩ <;> simp <;> omega
      · exact ⟨Z_byt, Z_byt⟩
    · exact ⟨Z_byt, Z_byt⟩
  · exact ⟨Z_byt, Z_byt⟩

set_option maxHeartbeats 8000000 in
theorem lawWCubes_any (v : Value) (L : List UInt8) (V M : List Int) (hV : Byt V) (hM : Byt M) (p : Int) (w : World) (hL : BSl w v L) (hl : L.length ≤ 140737488351232) (hp : p ≤ 9223372036854775807) :
    Calls Try.prog 5 #[v, .agg (cv V M), .int .i64 p] w fun e w' => e = .returned (.bool true) ∧ Below w.heap.size w w' := by
  have CA : Hid (∀ W, Calls Try.prog 9 #[] W fun e w' => e = .returned (.bool true) ∧ Below W.heap.size W w') := awake9_any
  have HL : Hid (BSl w v L) := hL
  obtain ⟨ov, cx, hv, hc1, hc2⟩ := hL.slice
  subst hv
  obtain ⟨nl, hnl⟩ : ∃ nl, nl = L.length := ⟨_, rfl⟩
  have HN : Hid (nl = L.length) := hnl
  rw [← hnl] at HL hc1 hL ⊢
  clear hnl
  have hVl := hV.1
  have hMl := hM.1
  obtain ⟨C, hCd⟩ : ∃ C, C = can V M := ⟨_, rfl⟩
  have hC : Byt C := by rw [hCd]; exact can_byt V M
  have hCl := hC.1
  have CP : Hid (∀ W, Below w.heap.size w W → Calls Try.prog 15 #[.slice ov nl cx, .agg (cv V M)] W fun e w' => ∃ u, e = .returned u ∧ BOwn W.heap.size w' u (L ++ cubeB C M) ∧ Below W.heap.size W w') := fun W hW => by rw [hCd]; exact putCube_any _ L V M hV hM W (HL.out.below hW) hl
  have CRP : Hid (∀ W, Below w.heap.size w W → Calls Try.prog 18 #[.slice ov nl cx, .agg (cv V M)] W fun e w' => ∃ u, e = .returned u ∧ BOwn W.heap.size w' u (L ++ cubeB C M) ∧ Below W.heap.size W w') := fun W hW => by rw [hCd]; exact rputCube_any _ L V M hV hM W (HL.out.below hW) hl
  have CC : Hid (∀ W, Calls Try.prog 19 #[.agg (cv V M)] W fun e w' => e = .returned (.agg (cv C M)) ∧ Below W.heap.size W w') := by rw [hCd]; exact rcanon_any V M hV hM
  have hcc : can C M = C := by rw [hCd]; exact wcan_can V M
  obtain ⟨D, hD⟩ : ∃ D, D = L ++ cubeB C M := ⟨_, rfl⟩
  have CT1 : Hid (∀ (u : Value) (W : World), BSl W u D → Calls Try.prog 16 #[u, .int .i64 (nl : Int)] W fun e w' => e = .returned (.tuple #[.agg (cv C M), .int .i64 0]) ∧ Below W.heap.size W w') := fun u W hW => by
    have := takeCube_any u D (nl : Int) W hW (by have := HN.out; omega)
    rw [hD, HN.out, tc_back L C M hC hM hcc, ← HN.out] at this
    exact this
  obtain ⟨TV, hTV⟩ : ∃ T, T = (tcT D p).1 := ⟨_, rfl⟩
  obtain ⟨TM, hTM⟩ : ∃ T, T = (tcT D p).2.1 := ⟨_, rfl⟩
  obtain ⟨TE, hTE⟩ : ∃ T, T = (tcT D p).2.2 := ⟨_, rfl⟩
  have hTVl : TV.length = 13 := by rw [hTV]; exact (tcT_byt D p).1.1
  have hTMl : TM.length = 13 := by rw [hTM]; exact (tcT_byt D p).2.1
  have CT2 : Hid (∀ (u : Value) (W : World), BSl W u D → Calls Try.prog 16 #[u, .int .i64 p] W fun e w' => e = .returned (.tuple #[.agg (cv TV TM), .int .i64 TE]) ∧ Below W.heap.size W w') := fun u W hW => by
    rw [hTV, hTM, hTE]; exact takeCube_any u D p W hW hp
  have CT3 : Hid (∀ (u : Value) (W : World), BSl W u D → Calls Try.prog 17 #[u, .int .i64 p] W fun e w' => e = .returned (.tuple #[.agg (cv TV TM), .int .i64 TE]) ∧ Below W.heap.size W w') := fun u W hW => by
    rw [hTV, hTM, hTE]; exact rtakeCube_any u D p W hW
  rw [← hD] at CP CRP
  clear hL hl hV hM hC hCd hcc hD hTV hTM hTE hp
  have g0 := heap_new w (.cells (cv V M) 36) _ rfl
  have B0 : Below w.heap.size w (w.alloc (.cells (cv V M) 36)) := (Below.refl _ _).alloc (Nat.le_refl _) _
  go_enter Try.func5, Try.ntmps5
  go_wp2_with fail
  refine (CA.out _).mono ?_
  rintro e w1 ⟨rfl, hb1⟩
  have g1 : w1.heap[w.heap.size]? = some (.cells (cv V M) 36 (0, 0)) := (hb1.block _ (by simp)).trans g0
  have B1 : Below w.heap.size w w1 := B0.trans (hb1.mono (by simp))
  clear g0 B0 hb1
  go_wp2_with (first
    | (refine wl_loadC rfl _ rfl w.heap.size rfl V M g1 hVl hMl ?_))
  refine (CP.out _ B1).mono ?_
  rintro e w2 ⟨u, rfl, ho2, hb2⟩
  obtain ⟨o2, n2, c2, rfl⟩ := val_slice ho2.sl
  have hs1 := (Array.getElem?_eq_some_iff.1 g1).1
  have g2 : w2.heap[w.heap.size]? = some (.cells (cv V M) 36 (0, 0)) := (hb2.block _ hs1).trans g1
  have B2 : Below w.heap.size w w2 := B1.trans (hb2.mono B1.size)
  have HO2 : Hid (BSl w2 (.slice o2 n2 c2) D) := ho2.sl
  clear ho2 hb2 g1 B1 hs1
  go_wp2_with fail
  refine (CT1.out _ _ HO2.out).mono ?_
  rintro e w3 ⟨rfl, hb3⟩
  have hs2 := (Array.getElem?_eq_some_iff.1 g2).1
  have g3 : w3.heap[w.heap.size]? = some (.cells (cv V M) 36 (0, 0)) := (hb3.block _ hs2).trans g2
  have B3 : Below w.heap.size w w3 := B2.trans (hb3.mono B2.size)
  have HO3 : Hid (BSl w3 (.slice o2 n2 c2) D) := HO2.out.below hb3
  clear hb3 g2 B2 HO2 hs2
  go_wp2_with (first
    | (refine wl_storeC rfl _ _ rfl w3.heap.size C M rfl rfl _ (heap_new _ _ _ rfl) rfl hCl hMl _ (setRow_new _ _ _ _ _ rfl) ?_))
  have z3 : w.heap.size < w3.heap.size := (Array.getElem?_eq_some_iff.1 g3).1
  have a0 := heap_past w3 (.cells (cv C M) 36) _ _ g3
  have a1 := heap_new w3 (.cells (cv C M) 36) _ rfl
  have BA := B3.alloc B3.size (.cells (cv C M) 36)
  have HOA : Hid (BSl (w3.alloc (.cells (cv C M) 36)) (.slice o2 n2 c2) D) := HO3.out.alloc _
  refine (CT2.out _ _ HOA.out).mono ?_
  rintro e w4 ⟨rfl, hb4⟩
  have b0 : w4.heap[w.heap.size]? = some (.cells (cv V M) 36 (0, 0)) := (hb4.block _ (by simp; omega)).trans a0
  have b1 : w4.heap[w3.heap.size]? = some (.cells (cv C M) 36 (0, 0)) := (hb4.block _ (by simp)).trans a1
  have B4 : Below w.heap.size w w4 := BA.trans (hb4.mono BA.size)
  have HO4 : Hid (BSl w4 (.slice o2 n2 c2) D) := HOA.out.below hb4
  have z4 : w3.heap.size < w4.heap.size := (Array.getElem?_eq_some_iff.1 b1).1
  clear hb4 a0 a1 BA HOA HO3 g3 B3
  go_wp2_with (first
    | (refine wl_storeC rfl _ _ rfl w4.heap.size TV TM rfl rfl _ (heap_new _ _ _ rfl) rfl hTVl hTMl _ (setRow_new _ _ _ _ _ rfl) ?_))
  have a0 := heap_past w4 (.cells (cv TV TM) 36) _ _ b0
  have a1 := heap_past w4 (.cells (cv TV TM) 36) _ _ b1
  have a2 := heap_new w4 (.cells (cv TV TM) 36) _ rfl
  have BA := B4.alloc B4.size (.cells (cv TV TM) 36)
  have HOA : Hid (BSl (w4.alloc (.cells (cv TV TM) 36)) (.slice o2 n2 c2) D) := HO4.out.alloc _
  refine (CT3.out _ _ HOA.out).mono ?_
  rintro e w5 ⟨rfl, hb5⟩
  have c0 : w5.heap[w.heap.size]? = some (.cells (cv V M) 36 (0, 0)) := (hb5.block _ (by simp; omega)).trans a0
  have c1 : w5.heap[w3.heap.size]? = some (.cells (cv C M) 36 (0, 0)) := (hb5.block _ (by simp; omega)).trans a1
  have cc2 : w5.heap[w4.heap.size]? = some (.cells (cv TV TM) 36 (0, 0)) := (hb5.block _ (by simp)).trans a2
  have B5 : Below w.heap.size w w5 := BA.trans (hb5.mono BA.size)
  have HO5 : Hid (BSl w5 (.slice o2 n2 c2) D) := HOA.out.below hb5
  have z5 : w4.heap.size < w5.heap.size := (Array.getElem?_eq_some_iff.1 cc2).1
  clear hb5 a0 a1 a2 BA HOA HO4 b0 b1 B4
  go_wp2_with (first
    | (refine wl_storeC rfl _ _ rfl w5.heap.size TV TM rfl rfl _ (heap_new _ _ _ rfl) rfl hTVl hTMl _ (setRow_new _ _ _ _ _ rfl) ?_))
  have k0 := heap_past w5 (.cells (cv TV TM) 36) _ _ c0
  have k1 := heap_past w5 (.cells (cv TV TM) 36) _ _ c1
  have k2 := heap_past w5 (.cells (cv TV TM) 36) _ _ cc2
  have k3 := heap_new w5 (.cells (cv TV TM) 36) _ rfl
  have B6 := B5.alloc B5.size (.cells (cv TV TM) 36)
  have HO6 : Hid (BSl (w5.alloc (.cells (cv TV TM) 36)) (.slice o2 n2 c2) D) := HO5.out.alloc _
  obtain ⟨W, hW⟩ : ∃ W, W = w5.alloc (.cells (cv TV TM) 36) := ⟨_, rfl⟩
  rw [← hW] at k0 k1 k2 k3 B6 HO6 ⊢
  clear hW c0 c1 cc2 B5 HO5
  have ne1 := Later.ne W
  have HLW : Hid (∀ W', Below W.heap.size W W' → Below w.heap.size w W') := fun W' h => B6.trans (h.mono B6.size)
  have e1 : ∀ w, (Op.equalIn 10000 36 (.agg (cv C M)) (.agg (cv C M))).run Try.prog w = .ok true w := fun w => by rw [eqC C M C M hCl hMl hCl hMl, beq_self_eq_true, beq_self_eq_true]; rfl
  have e2 : ∀ w, (Op.equalIn 10000 36 (.agg (cv TV TM)) (.agg (cv TV TM))).run Try.prog w = .ok true w := fun w => by rw [eqC TV TM TV TM hTVl hTMl hTVl hTMl, beq_self_eq_true, beq_self_eq_true]; rfl
  have eg : ∀ op x y (xs ys : Array Value) w, (eqGuard op 36 x y (.agg xs) (.agg ys)).run Try.prog w = .ok () w := egC
  refine region_cut (fun a a' w' => ∃ y38 y39 y40 y41 y42 y43 y44 y45 y46 y47 y48 y49 y50 y51 y52 y53 y54 y55 y56 y57 y58 y59 y60 y61 y62, a' = ((((((((((((((((((((((((((a.put (some 38) y38).put (some 39) y39).put (some 40) y40).put (some 41) y41).put (some 42) y42).put (some 43) y43).put (some 44) y44).put (some 45) y45).put (some 46) y46).put (some 47) y47).put (some 48) y48).put (some 49) y49).put (some 50) y50).put (some 51) y51).put (some 52) y52).put (some 53) y53).put (some 54) y54).put (some 55) y55).put (some 56) y56).put (some 57) y57).put (some 58) y58).put (some 59) y59).put (some 60) y60).put (some 61) y61).put (some 62) y62).put (some 6) (.bool true)) ∧ Below W.heap.size W w') ?_ ?_
  · refine region_begin 26 rfl (by kernel_rfl) ?_
    refine region_reads 0 3 23 rfl (by kernel_rfl) (by kernel_rfl) (by kernel_rfl) (by intro d v c a w h; exact absurd h.1 (by simp)) ⟨⟨W.drew, (Below.refl _ _).drew⟩, rfl⟩ ?_
    simp only [List.drop_zero, List.take_succ_cons, List.take_zero]
    go_big_quiet_step (fail)
    go_big_quiet_step (fail)
    refine qlC rfl _ rfl w.heap.size rfl V M k0 hVl hMl ?_
    simp only [Act.put, List.setIfInBounds_toArray, List.set_cons_succ, List.set_cons_zero]
    refine wpQuiet_nil ?_
    refine wpAnyH_all (rs := [3]) (by kernel_rfl) (by decide) ?_
    intro i hi
    obtain rfl := List.mem_singleton.1 hi
    refine wpOp_call rfl rfl 18 #[.tmp 39, .tmp 40] (by intro b w; have hf := Try.func18; simp [go_sem]) #[.slice ov nl cx, .agg (cv V M)] rfl (fun v w' => BSl w' v D ∧ Below W.heap.size W w') ((CRP.out _ (HLW.out _ (Below.refl _ _).drew)).mono fun e w' ⟨v, h1, h2, h3⟩ => ⟨v, h1, h2.sl, (Below.refl _ _).drew.trans h3⟩) (some 41) rfl ?_
    rintro z w6 ⟨hz6, hb6⟩
    obtain ⟨o6, n6, c6, rfl⟩ := val_slice hz6
    refine ⟨⟨⟨w6, hb6⟩, rfl⟩, ?_⟩
    simp only [Act.put, List.setIfInBounds_toArray, List.set_cons_succ, List.set_cons_zero]
    refine wpAnyH_all (rs := [4]) (by kernel_rfl) (by decide) ?_
    intro i hi
    obtain rfl := List.mem_singleton.1 hi
    refine wpOp_call rfl rfl 12 #[.tmp 38, .tmp 41] (by intro b w; have hf := Try.func12; simp [go_sem]) #[.slice o2 n2 c2, .slice o6 n6 c6] rfl (fun v w' => v = .bool true ∧ w' = w6) ((rsameB_any _ _ D D w6 (HO6.out.below hb6) hz6).mono fun e w' ⟨h1, h2⟩ => ⟨_, h1, by rw [beq_self_eq_true], h2⟩) (some 42) rfl ?_
    rintro z w7 ⟨rfl, rfl⟩
    refine ⟨⟨⟨w7, hb6⟩, rfl⟩, ?_⟩
    simp only [Act.put, List.setIfInBounds_toArray, List.set_cons_succ, List.set_cons_zero]
    refine wpAnyH_takeD (i := 5) (v := .bool true) (some 43) rfl rfl (by kernel_rfl) (by kernel_rfl) (by kernel_rfl) (fun c a w h => absurd h.1 (by simp)) (.inl ⟨rfl, fun w _ => rfl⟩) ⟨⟨w7, hb6⟩, rfl⟩ ?_
    simp only [Act.put, List.setIfInBounds_toArray, List.set_cons_succ, List.set_cons_zero]
    refine region_reads 6 2 18 rfl (by kernel_rfl) (by kernel_rfl) (by kernel_rfl) (by intro d v c a w h; exact absurd h.1 (by simp)) ⟨⟨w7, hb6⟩, rfl⟩ ?_
    simp only [List.drop_succ_cons, List.drop_zero, List.take_succ_cons, List.take_zero]
    refine qlC rfl _ rfl w3.heap.size rfl C M k1 hCl hMl ?_
    simp only [Act.put, List.setIfInBounds_toArray, List.set_cons_succ, List.set_cons_zero]
    refine qlC rfl _ rfl w.heap.size rfl V M k0 hVl hMl ?_
    simp only [Act.put, List.setIfInBounds_toArray, List.set_cons_succ, List.set_cons_zero]
    refine wpQuiet_nil ?_
    refine wpAnyH_all (rs := [8]) (by kernel_rfl) (by decide) ?_
    intro i hi
    obtain rfl := List.mem_singleton.1 hi
    refine wpOp_call rfl rfl 19 #[.tmp 45] (by intro b w; have hf := Try.func19; simp [go_sem]) #[.agg (cv V M)] rfl (fun v w' => v = .agg (cv C M) ∧ Below W.heap.size W w') ((CC.out w7).mono fun e w' ⟨h1, h2⟩ => ⟨_, h1, rfl, hb6.trans (h2.mono hb6.size)⟩) (some 46) rfl ?_
    rintro z w8 ⟨rfl, hb8⟩
    refine ⟨⟨⟨w8, hb8⟩, rfl⟩, ?_⟩
    simp only [Act.put, List.setIfInBounds_toArray, List.set_cons_succ, List.set_cons_zero]
    refine wpAnyH_takeD (i := 9) (v := .bool true) (some 47) rfl rfl (by kernel_rfl) (by kernel_rfl) (by kernel_rfl) (fun c a w h => absurd h.1 (by simp)) (.inl ⟨rfl, fun w _ => by simp [execOp, Act.eval, binOp, Op.equal, Op.maxDepth, eg, e1]⟩) ⟨⟨w8, hb8⟩, rfl⟩ ?_
    simp only [Act.put, List.setIfInBounds_toArray, List.set_cons_succ, List.set_cons_zero]
    refine wpAnyH_takeD (i := 10) (v := .bool true) (some 48) rfl rfl (by kernel_rfl) (by kernel_rfl) (by kernel_rfl) (fun c a w h => absurd h.1 (by simp)) (.inl ⟨rfl, fun w _ => rfl⟩) ⟨⟨w8, hb8⟩, rfl⟩ ?_
    simp only [Act.put, List.setIfInBounds_toArray, List.set_cons_succ, List.set_cons_zero]
    refine wpAnyH_takeD (i := 11) (v := .bool true) (some 49) rfl rfl (by kernel_rfl) (by kernel_rfl) (by kernel_rfl) (fun c a w h => absurd h.1 (by simp)) (.inl ⟨rfl, fun w _ => rfl⟩) ⟨⟨w8, hb8⟩, rfl⟩ ?_
    simp only [Act.put, List.setIfInBounds_toArray, List.set_cons_succ, List.set_cons_zero]
    refine wpAnyH_takeD (i := 12) (v := .int .i64 0) (some 50) rfl rfl (by kernel_rfl) (by kernel_rfl) (by kernel_rfl) (fun c a w h => absurd h.1 (by simp)) (.inl ⟨rfl, fun w _ => rfl⟩) ⟨⟨w8, hb8⟩, rfl⟩ ?_
    simp only [Act.put, List.setIfInBounds_toArray, List.set_cons_succ, List.set_cons_zero]
    refine wpAnyH_takeD (i := 13) (v := .bool true) (some 51) rfl rfl (by kernel_rfl) (by kernel_rfl) (by kernel_rfl) (fun c a w h => absurd h.1 (by simp)) (.inl ⟨rfl, fun w _ => by simp [execOp, Act.eval, go_sem]⟩) ⟨⟨w8, hb8⟩, rfl⟩ ?_
    simp only [Act.put, List.setIfInBounds_toArray, List.set_cons_succ, List.set_cons_zero]
    refine wpAnyH_takeD (i := 14) (v := .bool true) (some 52) rfl rfl (by kernel_rfl) (by kernel_rfl) (by kernel_rfl) (fun c a w h => absurd h.1 (by simp)) (.inl ⟨rfl, fun w _ => rfl⟩) ⟨⟨w8, hb8⟩, rfl⟩ ?_
    simp only [Act.put, List.setIfInBounds_toArray, List.set_cons_succ, List.set_cons_zero]
    refine wpAnyH_takeD (i := 15) (v := .bool true) (some 53) rfl rfl (by kernel_rfl) (by kernel_rfl) (by kernel_rfl) (fun c a w h => absurd h.1 (by simp)) (.inl ⟨rfl, fun w _ => rfl⟩) ⟨⟨w8, hb8⟩, rfl⟩ ?_
    simp only [Act.put, List.setIfInBounds_toArray, List.set_cons_succ, List.set_cons_zero]
    refine region_reads 16 2 8 rfl (by kernel_rfl) (by kernel_rfl) (by kernel_rfl) (by intro d v c a w h; exact absurd h.1 (by simp)) ⟨⟨w8, hb8⟩, rfl⟩ ?_
    simp only [List.drop_succ_cons, List.drop_zero, List.take_succ_cons, List.take_zero]
    refine qlC rfl _ rfl w4.heap.size rfl TV TM k2 hTVl hTMl ?_
    simp only [Act.put, List.setIfInBounds_toArray, List.set_cons_succ, List.set_cons_zero]
    refine qlC rfl _ rfl w5.heap.size rfl TV TM k3 hTVl hTMl ?_
    simp only [Act.put, List.setIfInBounds_toArray, List.set_cons_succ, List.set_cons_zero]
    refine wpQuiet_nil ?_
    refine wpAnyH_takeD (i := 18) (v := .bool true) (some 56) rfl rfl (by kernel_rfl) (by kernel_rfl) (by kernel_rfl) (fun c a w h => absurd h.1 (by simp)) (.inl ⟨rfl, fun w _ => by simp [execOp, Act.eval, binOp, Op.equal, Op.maxDepth, eg, e2]⟩) ⟨⟨w8, hb8⟩, rfl⟩ ?_
    simp only [Act.put, List.setIfInBounds_toArray, List.set_cons_succ, List.set_cons_zero]
    refine wpAnyH_takeD (i := 19) (v := .bool true) (some 57) rfl rfl (by kernel_rfl) (by kernel_rfl) (by kernel_rfl) (fun c a w h => absurd h.1 (by simp)) (.inl ⟨rfl, fun w _ => rfl⟩) ⟨⟨w8, hb8⟩, rfl⟩ ?_
    simp only [Act.put, List.setIfInBounds_toArray, List.set_cons_succ, List.set_cons_zero]
    refine wpAnyH_takeD (i := 20) (v := .bool true) (some 58) rfl rfl (by kernel_rfl) (by kernel_rfl) (by kernel_rfl) (fun c a w h => absurd h.1 (by simp)) (.inl ⟨rfl, fun w _ => rfl⟩) ⟨⟨w8, hb8⟩, rfl⟩ ?_
    simp only [Act.put, List.setIfInBounds_toArray, List.set_cons_succ, List.set_cons_zero]
    refine wpAnyH_takeD (i := 21) (v := .int .i64 TE) (some 59) rfl rfl (by kernel_rfl) (by kernel_rfl) (by kernel_rfl) (fun c a w h => absurd h.1 (by simp)) (.inl ⟨rfl, fun w _ => rfl⟩) ⟨⟨w8, hb8⟩, rfl⟩ ?_
    simp only [Act.put, List.setIfInBounds_toArray, List.set_cons_succ, List.set_cons_zero]
    refine wpAnyH_takeD (i := 22) (v := .int .i64 TE) (some 60) rfl rfl (by kernel_rfl) (by kernel_rfl) (by kernel_rfl) (fun c a w h => absurd h.1 (by simp)) (.inl ⟨rfl, fun w _ => rfl⟩) ⟨⟨w8, hb8⟩, rfl⟩ ?_
    simp only [Act.put, List.setIfInBounds_toArray, List.set_cons_succ, List.set_cons_zero]
    refine wpAnyH_takeD (i := 23) (v := .bool true) (some 61) rfl rfl (by kernel_rfl) (by kernel_rfl) (by kernel_rfl) (fun c a w h => absurd h.1 (by simp)) (.inl ⟨rfl, fun w _ => by simp [execOp, Act.eval, go_sem]⟩) ⟨⟨w8, hb8⟩, rfl⟩ ?_
    simp only [Act.put, List.setIfInBounds_toArray, List.set_cons_succ, List.set_cons_zero]
    refine wpAnyH_takeD (i := 24) (v := .bool true) (some 62) rfl rfl (by kernel_rfl) (by kernel_rfl) (by kernel_rfl) (fun c a w h => absurd h.1 (by simp)) (.inl ⟨rfl, fun w _ => rfl⟩) ⟨⟨w8, hb8⟩, rfl⟩ ?_
    simp only [Act.put, List.setIfInBounds_toArray, List.set_cons_succ, List.set_cons_zero]
    refine wpAnyH_all (rs := [25]) (by kernel_rfl) (by decide) ?_
    intro i hi
    obtain rfl := List.mem_singleton.1 hi
    refine wpOp_assign rfl rfl _ rfl (.bool true) rfl (some 6) rfl ?_
    refine ⟨⟨⟨w8, hb8⟩, rfl⟩, ?_⟩
    refine wpAnyH_done (by kernel_rfl) ?_ _
    exact ⟨rfl, _, _, _, _, _, _, _, _, _, _, _, _, _, _, _, _, _, _, _, _, _, _, _, _, _, rfl, hb8⟩
  · rintro a' w9 ⟨y38, y39, y40, y41, y42, y43, y44, y45, y46, y47, y48, y49, y50, y51, y52, y53, y54, y55, y56, y57, y58, y59, y60, y61, y62, rfl, hb9⟩
    simp only [Act.put, List.setIfInBounds_toArray, List.set_cons_succ, List.set_cons_zero]
    go_wp2_with fail
    go_ret
    exact ⟨rfl, HLW.out _ hb9⟩
end Go.Proofs.Ytfbphblodankmaa
