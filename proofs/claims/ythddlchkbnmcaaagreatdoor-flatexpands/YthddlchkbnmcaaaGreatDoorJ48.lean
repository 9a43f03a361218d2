import Derived.Test.YthddlchkbnmcaaaGreatDoorJ47
namespace Go.Proofs.YthddlchkbnmcaaaGreatDoor
open Go Go.RowKit
set_option maxRecDepth 20000

theorem row_len (b s : CubeT) (D : List CubeT) : (rowC b s D).length = D.length := by simp [rowC]
theorem rows_len (b : CubeT) (D : List CubeT) : ∀ S : List CubeT, (allRows b S D).length = S.length * D.length
  | [] => by simp [allRows]
  | s :: S => by
    have ih := rows_len b D S
    unfold allRows at ih ⊢
    rw [List.flatMap_cons, List.length_append, ih, row_len, List.length_cons, Nat.add_mul]
    omega
theorem portP_byts (f l h : Int) : Byts (portP f l h) := by
  unfold portP
  split
  · exact byts_portC _ _
  · intro c hc; simp at hc
set_option maxHeartbeats 16000000 in
set_option maxRecDepth 100000 in
theorem rcubes_any (x : Ent) (hx : ent32 x) (hd : x.dflt = false) (hp : -1 ≤ x.proto ∧ x.proto ≤ 255) (w : World) :
    Calls Tryz.prog 19 #[.agg (entV x)] w fun e w' => (∃ v, e = .returned v ∧ w'.ownsRow w.heap.size 37 26 v (cubesT x).length (ccells (cubesT x))) ∧ Below w.heap.size w w' := by
  have hZl := Z_byt.1
  have HCT : Hid (cubesT x = allRows (baseC x) (portP 2 x.slow x.shigh) (portP 3 x.dlow x.dhigh)) := cubes_rows hd hp
  obtain ⟨k0, hk0⟩ : ∃ k, k = clip8 x.srcBits := ⟨_, rfl⟩
  obtain ⟨k1, hk1⟩ : ∃ k, k = clip8 x.dstBits := ⟨_, rfl⟩
  have CL0 : Hid (∀ W, Calls Tryz.prog 35 #[.int .i64 x.srcBits] W fun e w' => e = .returned (.int .i64 (k0 : Int)) ∧ Below W.heap.size W w') := fun W => by
    rw [hk0]; exact (rclip_any _ W).mono fun e w' h => ⟨h.1, by rw [h.2]; exact Below.refl _ _⟩
  have CL1 : Hid (∀ W, Calls Tryz.prog 35 #[.int .i64 x.dstBits] W fun e w' => e = .returned (.int .i64 (k1 : Int)) ∧ Below W.heap.size W w') := fun W => by
    rw [hk1]; exact (rclip_any _ W).mono fun e w' h => ⟨h.1, by rw [h.2]; exact Below.refl _ _⟩
  obtain ⟨⟨AV, AM⟩, hA⟩ : ∃ c, c = prefB8 0 x.src x.srcBits := ⟨_, rfl⟩
  obtain ⟨⟨BV, BM⟩, hB⟩ : ∃ c, c = prefB8 1 x.dst x.dstBits := ⟨_, rfl⟩
  have PX0 : Hid (∀ W, Calls Tryz.prog 34 #[.int .i64 0, .int .u32 x.src, .int .i64 (k0 : Int)] W fun e w' => e = .returned (.tuple #[.agg (cv AV AM), .int .i64 0]) ∧ Below W.heap.size W w') := fun W => by
    have := rprefix_ok 0 x.src.toNat (clip8 x.srcBits) W (.inl rfl) (by have := hx.1; omega) (by unfold clip8; omega)
    rw [Int.toNat_of_nonneg hx.1.1, ← hk0] at this
    rw [show AV = pxV 0 x.src.toNat k0 by rw [hk0]; exact congrArg Prod.fst hA, show AM = pxM 0 k0 by rw [hk0]; exact congrArg Prod.snd hA]
    exact this
  have PX1 : Hid (∀ W, Calls Tryz.prog 34 #[.int .i64 1, .int .u32 x.dst, .int .i64 (k1 : Int)] W fun e w' => e = .returned (.tuple #[.agg (cv BV BM), .int .i64 0]) ∧ Below W.heap.size W w') := fun W => by
    have := rprefix_ok 1 x.dst.toNat (clip8 x.dstBits) W (.inr rfl) (by have := hx.2; omega) (by unfold clip8; omega)
    rw [Int.toNat_of_nonneg hx.2.1, ← hk1] at this
    rw [show BV = pxV 1 x.dst.toNat k1 by rw [hk1]; exact congrArg Prod.fst hB, show BM = pxM 1 k1 by rw [hk1]; exact congrArg Prod.snd hB]
    exact this
  have hAV : AV.length = 13 := by have := (prefB8_byt 0 x.src x.srcBits).1.1; rw [← hA] at this; exact this
  have hAM : AM.length = 13 := by have := (prefB8_byt 0 x.src x.srcBits).2.1; rw [← hA] at this; exact this
  have hBV : BV.length = 13 := by have := (prefB8_byt 1 x.dst x.dstBits).1.1; rw [← hB] at this; exact this
  have hBM : BM.length = 13 := by have := (prefB8_byt 1 x.dst x.dstBits).2.1; rw [← hB] at this; exact this
  obtain ⟨S, hS⟩ : ∃ S, S = portP 2 x.slow x.shigh := ⟨_, rfl⟩
  obtain ⟨D, hD⟩ : ∃ D, D = portP 3 x.dlow x.dhigh := ⟨_, rfl⟩
  have PS : Hid (∀ W, Calls Tryz.prog 36 #[.int .i64 2, .int .i64 x.slow, .int .i64 x.shigh] W fun e w' => ∃ u, e = .returned (.tuple #[u, .int .i64 (portE 2 x.slow x.shigh)]) ∧ Sl w' u S ∧ Below W.heap.size W w') := fun W => by rw [hS]; exact rports_any 2 x.slow x.shigh W
  have PD : Hid (∀ W, Calls Tryz.prog 36 #[.int .i64 3, .int .i64 x.dlow, .int .i64 x.dhigh] W fun e w' => ∃ u, e = .returned (.tuple #[u, .int .i64 (portE 3 x.dlow x.dhigh)]) ∧ Sl w' u D ∧ Below W.heap.size W w') := fun W => by rw [hD]; exact rports_any 3 x.dlow x.dhigh W
  obtain ⟨⟨PV, PM⟩, hPP⟩ : ∃ c, c = protB8 x.proto := ⟨_, rfl⟩
  have hPV : PV.length = 13 := by have := (protB8_byt x.proto).1.1; rw [← hPP] at this; exact this
  have hPM : PM.length = 13 := by have := (protB8_byt x.proto).2.1; rw [← hPP] at this; exact this
  have PE : Hid (x.proto = -1 → PV = Z) := fun h => by have := congrArg Prod.fst hPP; unfold protB8 at this; rw [if_pos h] at this; exact this
  have PF : Hid (x.proto = -1 → PM = Z) := fun h => by have := congrArg Prod.snd hPP; unfold protB8 at this; rw [if_pos h] at this; exact this
  have PR : Hid (x.proto ≠ -1 → ∀ W, Calls Tryz.prog 37 #[.int .i64 x.proto] W fun e w' => e = .returned (.tuple #[.agg (cv PV PM), .int .i64 0]) ∧ Below W.heap.size W w') := fun h W => by
    have := rproto_ok x.proto.toNat W (by omega)
    rw [Int.toNat_of_nonneg (by omega)] at this
    have e := hPP
    unfold protB8 at e
    rw [if_neg h] at e
    rw [show PV = pxV 4 x.proto.toNat 8 from congrArg Prod.fst e, show PM = pxM 4 8 from congrArg Prod.snd e]
    exact this
  obtain ⟨⟨FV, FM⟩, hF⟩ : ∃ c, c = base1 x := ⟨_, rfl⟩
  obtain ⟨⟨CV, CM⟩, hC⟩ : ∃ c, c = baseC x := ⟨_, rfl⟩
  have hFV : FV.length = 13 := by have := (met_byt (prefB8 0 x.src x.srcBits) (prefB8 1 x.dst x.dstBits)).1.1; rw [show met (prefB8 0 x.src x.srcBits) (prefB8 1 x.dst x.dstBits) = (FV, FM) from hF.symm] at this; exact this
  have hFM : FM.length = 13 := by have := (met_byt (prefB8 0 x.src x.srcBits) (prefB8 1 x.dst x.dstBits)).2.1; rw [show met (prefB8 0 x.src x.srcBits) (prefB8 1 x.dst x.dstBits) = (FV, FM) from hF.symm] at this; exact this
  have hCB : Byt CV ∧ Byt CM := by have := met_byt (base1 x) (protB8 x.proto); rw [show met (base1 x) (protB8 x.proto) = (CV, CM) from hC.symm] at this; exact this
  have hCV := hCB.1.1
  have hCM := hCB.2.1
  have M1 : Hid (∀ W, Calls Tryz.prog 38 #[.agg (cv AV AM), .agg (cv BV BM)] W fun e w' => e = .returned (.tuple #[.agg (cv FV FM), .bool true]) ∧ Below W.heap.size W w') := fun W => by
    have := rmet_any (fun i a b => by simp only [decide_eq_true_eq] at a b; omega) (sup_pc0 x.src x.srcBits) (sup_pc1 x.dst x.dstBits) (prefB8_byt _ _ _) (prefB8_byt _ _ _) W
    rw [← hA, ← hB, show met (AV, AM) (BV, BM) = (FV, FM) by rw [hA, hB]; exact hF.symm] at this
    exact this
  have M2 : Hid (∀ W, Calls Tryz.prog 38 #[.agg (cv FV FM), .agg (cv PV PM)] W fun e w' => e = .returned (.tuple #[.agg (cv CV CM), .bool true]) ∧ Below W.heap.size W w') := fun W => by
    have := rmet_any (c := base1 x) (d := protB8 x.proto) (fun i a b => by simp only [Bool.or_eq_true, decide_eq_true_eq] at a b; omega) (sup_met (sup_pc0 x.src x.srcBits) (sup_pc1 x.dst x.dstBits)) (sup_prc x.proto) (met_byt _ _) (protB8_byt _) W
    rw [← hF, ← hPP, show met (FV, FM) (PV, PM) = (CV, CM) by rw [hF, hPP]; exact hC.symm] at this
    exact this
  have hb : supB f014 (CV, CM) := by rw [hC]; exact base_sup x _ (by rw [base_is hp]; exact List.mem_singleton.2 rfl)
  have MS : Hid (∀ s ∈ S, ∀ W, Calls Tryz.prog 38 #[.agg (cv CV CM), .agg (cv s.1 s.2)] W fun e w' => e = .returned (.tuple #[.agg (cv (met (CV, CM) s).1 (met (CV, CM) s).2), .bool true]) ∧ Below W.heap.size W w') := fun s hs W => by
    rw [hS] at hs
    exact rmet_any (c := (CV, CM)) base_two hb (sup_p2 x s hs) hCB (by obtain ⟨p, q⟩ := portP_byts 2 x.slow x.shigh s hs; exact ⟨p, q⟩) W
  have MD : Hid (∀ s ∈ S, ∀ d ∈ D, ∀ W, Calls Tryz.prog 38 #[.agg (cv (met (CV, CM) s).1 (met (CV, CM) s).2), .agg (cv d.1 d.2)] W fun e w' => e = .returned (.tuple #[.agg (cv (met (met (CV, CM) s) d).1 (met (met (CV, CM) s) d).2), .bool true]) ∧ Below W.heap.size W w') := fun s hs d hd W => by
    rw [hS] at hs
    rw [hD] at hd
    exact rmet_any base_three (sup_met hb (sup_p2 x s hs)) (sup_p3 x d hd) (met_byt _ _) (by obtain ⟨p, q⟩ := portP_byts 3 x.dlow x.dhigh d hd; exact ⟨p, q⟩) W
  rw [← hS, ← hD, ← hC] at HCT
  have HSL : Hid (S.length ≤ 30) := by rw [hS]; exact portP_few 2 _ _
  have HDL : Hid (D.length ≤ 30) := by rw [hD]; exact portP_few 3 _ _
  clear hS hD hPP hF hC hCB hb hA hB
  have KN : Hid (((w.alloc (.cells (entV x) 35)).alloc (.cells (cv Z Z) 37)).heap[w.heap.size]? = some (.cells (entV x) 35 (0, 0))) := heap_past _ _ _ _ (heap_new _ _ _ rfl)
  have KZ : Hid (((w.alloc (.cells (entV x) 35)).alloc (.cells (cv Z Z) 37)).heap[w.heap.size + 1]? = some (.cells (cv Z Z) 37 (0, 0))) := heap_new _ _ _ (by simp)
  have B0 : Hid (Below w.heap.size w ((w.alloc (.cells (entV x) 35)).alloc (.cells (cv Z Z) 37))) := ((Below.refl _ _).alloc (Nat.le_refl _) _).alloc (by simp) _
  have f0 := (ent_g KN.out).1
  rw [hd] at f0
  clear hk0 hk1
  go_enter Tryz.func19, Tryz.ntmps19
  go_wp2_with (refine wl_storeC rfl _ _ rfl (w.heap.size + 1) Z Z rfl (by rw [← zeroC_eq]; rfl) _ (heap_new _ _ _ (by simp)) rfl hZl hZl _ (setRow_new _ _ _ _ _ (by simp)) ?_)
  obtain ⟨w1, hw1⟩ : ∃ w1, w1 = (w.alloc (.cells (entV x) 35)).alloc (.cells (cv Z Z) 37) := ⟨_, rfl⟩
  rw [← hw1] at KN KZ B0 f0 ⊢
  clear hw1 f0
  have l2 : ∀ u : Later w1, u.world.cell? ⟨w.heap.size, 2, none⟩ = some (.int .u32 x.src) := later_cell7 KN.out rfl
  have l3 : ∀ u : Later w1, u.world.cell? ⟨w.heap.size, 3, none⟩ = some (.int .i64 x.srcBits) := later_cell7 KN.out rfl
  have ne1 := Later.ne w1
  refine region_cut (fun a a' w' => ∃ gq y25 y26 y27 y28 y29 y30 y31 y32 y33, a' = (((((((((((a.put (some 4) (.pointer (some ⟨gq, 0, none⟩))).put (some 5) (.int .i64 0)).put (some 25) y25).put (some 26) y26).put (some 27) y27).put (some 28) y28).put (some 29) y29).put (some 30) y30).put (some 31) y31).put (some 32) y32).put (some 33) y33) ∧ w1.heap.size ≤ gq ∧ w'.heap[gq]? = some (.cells (cv AV AM) 37 (0, 0)) ∧ Below w1.heap.size w1 w') ?_ ?_
  · refine region_begin 12 rfl (by kernel_rfl) ?_
    refine region_reads 0 4 8 rfl (by kernel_rfl) (by kernel_rfl) (by kernel_rfl) (by intro d v c a w h; exact absurd h.1 (by simp)) ⟨⟨w1.drew, (Below.refl _ _).drew⟩, rfl⟩ ?_
    simp only [List.drop_zero, List.take_succ_cons, List.take_zero]
    repeat go_big_quiet_step (fail)
    refine wpQuiet_nil ?_
    refine wpAnyH_all (rs := [4, 9]) (by kernel_rfl) (by decide) ?_
    intro i hi
    simp only [List.mem_cons, List.not_mem_nil, or_false] at hi
    rcases hi with rfl | rfl
    · refine wpOp_call rfl rfl 35 #[.tmp 29] (by intro b w; have hf := Tryz.func35; simp [go_sem]) #[.int .i64 x.srcBits] rfl (fun v w' => v = .int .i64 (k0 : Int) ∧ Below w1.drew.heap.size w1.drew w') ((CL0.out _).mono fun e w' h => ⟨_, h.1, rfl, h.2⟩) (some 30) rfl ?_
      rintro v wz1 ⟨rfl, hz1⟩
      have hy1 : Below w1.heap.size w1 wz1 := (Below.refl w1.heap.size w1).drew.trans (hz1.mono (Below.refl w1.heap.size w1).drew.size)
      refine ⟨⟨⟨wz1, hy1⟩, rfl⟩, ?_⟩
      simp only [Act.put, List.setIfInBounds_toArray, List.set_cons_succ, List.set_cons_zero]
      refine wpAnyH_all (rs := [5, 9]) (by kernel_rfl) (by decide) ?_
      intro i hi
      simp only [List.mem_cons, List.not_mem_nil, or_false] at hi
      rcases hi with rfl | rfl
      · refine wpOp_call rfl rfl 34 #[.const (.int .i64 0), .tmp 27, .tmp 30] (by intro b w; have hf := Tryz.func34; simp [go_sem]) #[.int .i64 0, .int .u32 x.src, .int .i64 (k0 : Int)] rfl (fun v w' => v = .tuple #[.agg (cv AV AM), .int .i64 0] ∧ Below wz1.heap.size wz1 w') ((PX0.out _).mono fun e w' h => ⟨_, h.1, rfl, h.2⟩) (some 31) rfl ?_
        rintro v wz2 ⟨rfl, hz2⟩
        have hy2 : Below w1.heap.size w1 wz2 := hy1.trans (hz2.mono hy1.size)
        refine ⟨⟨⟨wz2, hy2⟩, rfl⟩, ?_⟩
        simp only [Act.put, List.setIfInBounds_toArray, List.set_cons_succ, List.set_cons_zero]
        refine region_reads 6 3 3 rfl (by kernel_rfl) (by kernel_rfl) (by kernel_rfl) (by intro d v c a w h; exact absurd h.1 (by simp)) ⟨⟨wz2, hy2⟩, rfl⟩ ?_
        simp only [List.drop_succ_cons, List.drop_zero, List.take_succ_cons, List.take_zero]
        repeat go_big_quiet_step (fail)
        refine wpQuiet_nil ?_
        refine wpAnyH_all (rs := [9]) (by kernel_rfl) (by decide) ?_
        intro i hi
        obtain rfl := List.mem_singleton.1 hi
        refine wpOp_allocC rfl rfl rfl (some 4) rfl ?_
        have hy3 : Below w1.heap.size w1 (wz2.alloc (.cells zeroC 37)) := hy2.alloc hy2.size _
        have hx3 : (wz2.alloc (.cells zeroC 37)).heap[wz2.heap.size]? = some (.cells zeroC 37 (0, 0)) := heap_new _ _ _ rfl
        refine ⟨⟨⟨_, hy3⟩, rfl⟩, ?_⟩
        simp only [Act.put, List.setIfInBounds_toArray, List.set_cons_succ, List.set_cons_zero]
        refine wpAnyH_all (rs := [10]) (by kernel_rfl) (by decide) ?_
        intro i hi
        obtain rfl := List.mem_singleton.1 hi
        have hbl : w1.heap.size ≤ wz2.heap.size := by have := hy2.size; exact this
        refine wpOp_storeC rfl rfl _ _ rfl (wz2.heap.size) AV AM rfl rfl _ hx3 rfl hAV hAM none rfl ?_
        refine ⟨⟨⟨_, below_setRow hy3 hbl _⟩, rfl⟩, ?_⟩
        refine wpAnyH_all (rs := [11]) (by kernel_rfl) (by decide) ?_
        intro i hi
        obtain rfl := List.mem_singleton.1 hi
        refine wpOp_assign rfl rfl _ rfl (.int .i64 0) rfl (some 5) rfl ?_
        refine ⟨⟨⟨_, below_setRow hy3 hbl _⟩, rfl⟩, ?_⟩
        refine wpAnyH_done (by kernel_rfl) ?_ _
        exact ⟨rfl, wz2.heap.size, _, _, _, _, _, _, _, _, _, rfl, hbl, setRow_heap _ _ _ _ _ _ hx3, below_setRow hy3 hbl _⟩
      · refine wpOp_allocC rfl rfl rfl (some 4) rfl ?_
        have hy4 : Below w1.heap.size w1 (wz1.alloc (.cells zeroC 37)) := hy1.alloc hy1.size _
        have hx4 : (wz1.alloc (.cells zeroC 37)).heap[wz1.heap.size]? = some (.cells zeroC 37 (0, 0)) := heap_new _ _ _ rfl
        refine ⟨⟨⟨_, hy4⟩, rfl⟩, ?_⟩
        simp only [Act.put, List.setIfInBounds_toArray, List.set_cons_succ, List.set_cons_zero]
        refine wpAnyH_all (rs := [5]) (by kernel_rfl) (by decide) ?_
        intro i hi
        obtain rfl := List.mem_singleton.1 hi
        refine wpOp_call rfl rfl 34 #[.const (.int .i64 0), .tmp 27, .tmp 30] (by intro b w; have hf := Tryz.func34; simp [go_sem]) #[.int .i64 0, .int .u32 x.src, .int .i64 (k0 : Int)] rfl (fun v w' => v = .tuple #[.agg (cv AV AM), .int .i64 0] ∧ Below (wz1.alloc (.cells zeroC 37)).heap.size (wz1.alloc (.cells zeroC 37)) w') ((PX0.out _).mono fun e w' h => ⟨_, h.1, rfl, h.2⟩) (some 31) rfl ?_
        rintro v wz5 ⟨rfl, hz5⟩
        have hy5 : Below w1.heap.size w1 wz5 := hy4.trans (hz5.mono hy4.size)
        have hx5 : wz5.heap[wz1.heap.size]? = some (.cells zeroC 37 (0, 0)) := (hz5.block _ (Array.getElem?_eq_some_iff.1 hx4).1).trans hx4
        refine ⟨⟨⟨wz5, hy5⟩, rfl⟩, ?_⟩
        simp only [Act.put, List.setIfInBounds_toArray, List.set_cons_succ, List.set_cons_zero]
        refine region_reads 6 3 2 rfl (by kernel_rfl) (by kernel_rfl) (by kernel_rfl) (by intro d v c a w h; exact absurd h.1 (by simp)) ⟨⟨wz5, hy5⟩, rfl⟩ ?_
        simp only [List.drop_succ_cons, List.drop_zero, List.take_succ_cons, List.take_zero]
        repeat go_big_quiet_step (fail)
        refine wpQuiet_nil ?_
        refine wpAnyH_all (rs := [10]) (by kernel_rfl) (by decide) ?_
        intro i hi
        obtain rfl := List.mem_singleton.1 hi
        have hbl : w1.heap.size ≤ wz1.heap.size := by have := hy1.size; exact this
        refine wpOp_storeC rfl rfl _ _ rfl (wz1.heap.size) AV AM rfl rfl _ hx5 rfl hAV hAM none rfl ?_
        refine ⟨⟨⟨_, below_setRow hy5 hbl _⟩, rfl⟩, ?_⟩
        refine wpAnyH_all (rs := [11]) (by kernel_rfl) (by decide) ?_
        intro i hi
        obtain rfl := List.mem_singleton.1 hi
        refine wpOp_assign rfl rfl _ rfl (.int .i64 0) rfl (some 5) rfl ?_
        refine ⟨⟨⟨_, below_setRow hy5 hbl _⟩, rfl⟩, ?_⟩
        refine wpAnyH_done (by kernel_rfl) ?_ _
        exact ⟨rfl, wz1.heap.size, _, _, _, _, _, _, _, _, _, rfl, hbl, setRow_heap _ _ _ _ _ _ hx5, below_setRow hy5 hbl _⟩
    · refine wpOp_allocC rfl rfl rfl (some 4) rfl ?_
      have hy6 : Below w1.heap.size w1 (w1.drew.alloc (.cells zeroC 37)) := (Below.refl w1.heap.size w1).drew.alloc (Below.refl w1.heap.size w1).drew.size _
      have hx6 : (w1.drew.alloc (.cells zeroC 37)).heap[w1.drew.heap.size]? = some (.cells zeroC 37 (0, 0)) := heap_new _ _ _ rfl
      refine ⟨⟨⟨_, hy6⟩, rfl⟩, ?_⟩
      simp only [Act.put, List.setIfInBounds_toArray, List.set_cons_succ, List.set_cons_zero]
      refine wpAnyH_all (rs := [4]) (by kernel_rfl) (by decide) ?_
      intro i hi
      obtain rfl := List.mem_singleton.1 hi
      refine wpOp_call rfl rfl 35 #[.tmp 29] (by intro b w; have hf := Tryz.func35; simp [go_sem]) #[.int .i64 x.srcBits] rfl (fun v w' => v = .int .i64 (k0 : Int) ∧ Below (w1.drew.alloc (.cells zeroC 37)).heap.size (w1.drew.alloc (.cells zeroC 37)) w') ((CL0.out _).mono fun e w' h => ⟨_, h.1, rfl, h.2⟩) (some 30) rfl ?_
      rintro v wz7 ⟨rfl, hz7⟩
      have hy7 : Below w1.heap.size w1 wz7 := hy6.trans (hz7.mono hy6.size)
      have hx7 : wz7.heap[w1.drew.heap.size]? = some (.cells zeroC 37 (0, 0)) := (hz7.block _ (Array.getElem?_eq_some_iff.1 hx6).1).trans hx6
      refine ⟨⟨⟨wz7, hy7⟩, rfl⟩, ?_⟩
      simp only [Act.put, List.setIfInBounds_toArray, List.set_cons_succ, List.set_cons_zero]
      refine wpAnyH_all (rs := [5]) (by kernel_rfl) (by decide) ?_
      intro i hi
      obtain rfl := List.mem_singleton.1 hi
      refine wpOp_call rfl rfl 34 #[.const (.int .i64 0), .tmp 27, .tmp 30] (by intro b w; have hf := Tryz.func34; simp [go_sem]) #[.int .i64 0, .int .u32 x.src, .int .i64 (k0 : Int)] rfl (fun v w' => v = .tuple #[.agg (cv AV AM), .int .i64 0] ∧ Below wz7.heap.size wz7 w') ((PX0.out _).mono fun e w' h => ⟨_, h.1, rfl, h.2⟩) (some 31) rfl ?_
      rintro v wz8 ⟨rfl, hz8⟩
      have hy8 : Below w1.heap.size w1 wz8 := hy7.trans (hz8.mono hy7.size)
      have hx8 : wz8.heap[w1.drew.heap.size]? = some (.cells zeroC 37 (0, 0)) := (hz8.block _ (Array.getElem?_eq_some_iff.1 hx7).1).trans hx7
      refine ⟨⟨⟨wz8, hy8⟩, rfl⟩, ?_⟩
      simp only [Act.put, List.setIfInBounds_toArray, List.set_cons_succ, List.set_cons_zero]
      refine region_reads 6 3 2 rfl (by kernel_rfl) (by kernel_rfl) (by kernel_rfl) (by intro d v c a w h; exact absurd h.1 (by simp)) ⟨⟨wz8, hy8⟩, rfl⟩ ?_
      simp only [List.drop_succ_cons, List.drop_zero, List.take_succ_cons, List.take_zero]
      repeat go_big_quiet_step (fail)
      refine wpQuiet_nil ?_
      refine wpAnyH_all (rs := [10]) (by kernel_rfl) (by decide) ?_
      intro i hi
      obtain rfl := List.mem_singleton.1 hi
      have hbl : w1.heap.size ≤ w1.drew.heap.size := Nat.le_refl _
      refine wpOp_storeC rfl rfl _ _ rfl (w1.drew.heap.size) AV AM rfl rfl _ hx8 rfl hAV hAM none rfl ?_
      refine ⟨⟨⟨_, below_setRow hy8 hbl _⟩, rfl⟩, ?_⟩
      refine wpAnyH_all (rs := [11]) (by kernel_rfl) (by decide) ?_
      intro i hi
      obtain rfl := List.mem_singleton.1 hi
      refine wpOp_assign rfl rfl _ rfl (.int .i64 0) rfl (some 5) rfl ?_
      refine ⟨⟨⟨_, below_setRow hy8 hbl _⟩, rfl⟩, ?_⟩
      refine wpAnyH_done (by kernel_rfl) ?_ _
      exact ⟨rfl, w1.drew.heap.size, _, _, _, _, _, _, _, _, _, rfl, hbl, setRow_heap _ _ _ _ _ _ hx8, below_setRow hy8 hbl _⟩
  · rintro a' w' ⟨gq, y25, y26, y27, y28, y29, y30, y31, y32, y33, rfl, hgq, hcq, hbq⟩
    simp only [Act.put, List.setIfInBounds_toArray, List.set_cons_succ, List.set_cons_zero]
    have N2 : Hid (w'.heap[w.heap.size]? = some (.cells (entV x) 35 (0, 0))) := (hbq.block _ (Array.getElem?_eq_some_iff.1 KN.out).1).trans KN.out
    have Z2 : Hid (w'.heap[w.heap.size + 1]? = some (.cells (cv Z Z) 37 (0, 0))) := (hbq.block _ (Array.getElem?_eq_some_iff.1 KZ.out).1).trans KZ.out
    have A2 : Hid (w'.heap[gq]? = some (.cells (cv AV AM) 37 (0, 0))) := hcq
    have B2 : Hid (Below w.heap.size w w') := B0.out.trans (hbq.mono B0.out.size)
    have G4 : Hid (w.heap.size ≤ gq) := Nat.le_trans B0.out.size hgq
    clear l2 l3 ne1 hcq hbq hgq KN KZ B0 CL0 PX0
    obtain ⟨w2, hw2⟩ : ∃ w2, w2 = w' := ⟨_, rfl⟩
    rw [← hw2] at N2 Z2 A2 B2 ⊢
    obtain ⟨g4, hg4⟩ : ∃ g, g = gq := ⟨_, rfl⟩
    rw [← hg4] at A2 G4 ⊢
    clear hw2 hg4
    go_wp2_with fail
    have l4 : ∀ u : Later w2, u.world.cell? ⟨w.heap.size, 4, none⟩ = some (.int .u32 x.dst) := later_cell7 N2.out rfl
    have l5 : ∀ u : Later w2, u.world.cell? ⟨w.heap.size, 5, none⟩ = some (.int .i64 x.dstBits) := later_cell7 N2.out rfl
    have ne1 := Later.ne w2
    refine region_cut (fun a a' w' => ∃ gq y34 y35 y36 y37 y38 y39 y40 y41 y42, a' = (((((((((((a.put (some 6) (.pointer (some ⟨gq, 0, none⟩))).put (some 7) (.int .i64 0)).put (some 34) y34).put (some 35) y35).put (some 36) y36).put (some 37) y37).put (some 38) y38).put (some 39) y39).put (some 40) y40).put (some 41) y41).put (some 42) y42) ∧ w2.heap.size ≤ gq ∧ w'.heap[gq]? = some (.cells (cv BV BM) 37 (0, 0)) ∧ Below w2.heap.size w2 w') ?_ ?_
    · refine region_begin 12 rfl (by kernel_rfl) ?_
      refine region_reads 0 4 8 rfl (by kernel_rfl) (by kernel_rfl) (by kernel_rfl) (by intro d v c a w h; exact absurd h.1 (by simp)) ⟨⟨w2.drew, (Below.refl _ _).drew⟩, rfl⟩ ?_
      simp only [List.drop_zero, List.take_succ_cons, List.take_zero]
      repeat go_big_quiet_step (fail)
      refine wpQuiet_nil ?_
      refine wpAnyH_all (rs := [4, 9]) (by kernel_rfl) (by decide) ?_
      intro i hi
      simp only [List.mem_cons, List.not_mem_nil, or_false] at hi
      rcases hi with rfl | rfl
      · refine wpOp_call rfl rfl 35 #[.tmp 38] (by intro b w; have hf := Tryz.func35; simp [go_sem]) #[.int .i64 x.dstBits] rfl (fun v w' => v = .int .i64 (k1 : Int) ∧ Below w2.drew.heap.size w2.drew w') ((CL1.out _).mono fun e w' h => ⟨_, h.1, rfl, h.2⟩) (some 39) rfl ?_
        rintro v wz1 ⟨rfl, hz1⟩
        have hy1 : Below w2.heap.size w2 wz1 := (Below.refl w2.heap.size w2).drew.trans (hz1.mono (Below.refl w2.heap.size w2).drew.size)
        refine ⟨⟨⟨wz1, hy1⟩, rfl⟩, ?_⟩
        simp only [Act.put, List.setIfInBounds_toArray, List.set_cons_succ, List.set_cons_zero]
        refine wpAnyH_all (rs := [5, 9]) (by kernel_rfl) (by decide) ?_
        intro i hi
        simp only [List.mem_cons, List.not_mem_nil, or_false] at hi
        rcases hi with rfl | rfl
        · refine wpOp_call rfl rfl 34 #[.const (.int .i64 1), .tmp 36, .tmp 39] (by intro b w; have hf := Tryz.func34; simp [go_sem]) #[.int .i64 1, .int .u32 x.dst, .int .i64 (k1 : Int)] rfl (fun v w' => v = .tuple #[.agg (cv BV BM), .int .i64 0] ∧ Below wz1.heap.size wz1 w') ((PX1.out _).mono fun e w' h => ⟨_, h.1, rfl, h.2⟩) (some 40) rfl ?_
          rintro v wz2 ⟨rfl, hz2⟩
          have hy2 : Below w2.heap.size w2 wz2 := hy1.trans (hz2.mono hy1.size)
          refine ⟨⟨⟨wz2, hy2⟩, rfl⟩, ?_⟩
          simp only [Act.put, List.setIfInBounds_toArray, List.set_cons_succ, List.set_cons_zero]
          refine region_reads 6 3 3 rfl (by kernel_rfl) (by kernel_rfl) (by kernel_rfl) (by intro d v c a w h; exact absurd h.1 (by simp)) ⟨⟨wz2, hy2⟩, rfl⟩ ?_
          simp only [List.drop_succ_cons, List.drop_zero, List.take_succ_cons, List.take_zero]
          repeat go_big_quiet_step (fail)
          refine wpQuiet_nil ?_
          refine wpAnyH_all (rs := [9]) (by kernel_rfl) (by decide) ?_
          intro i hi
          obtain rfl := List.mem_singleton.1 hi
          refine wpOp_allocC rfl rfl rfl (some 6) rfl ?_
          have hy3 : Below w2.heap.size w2 (wz2.alloc (.cells zeroC 37)) := hy2.alloc hy2.size _
          have hx3 : (wz2.alloc (.cells zeroC 37)).heap[wz2.heap.size]? = some (.cells zeroC 37 (0, 0)) := heap_new _ _ _ rfl
          refine ⟨⟨⟨_, hy3⟩, rfl⟩, ?_⟩
          simp only [Act.put, List.setIfInBounds_toArray, List.set_cons_succ, List.set_cons_zero]
          refine wpAnyH_all (rs := [10]) (by kernel_rfl) (by decide) ?_
          intro i hi
          obtain rfl := List.mem_singleton.1 hi
          have hbl : w2.heap.size ≤ wz2.heap.size := by have := hy2.size; exact this
          refine wpOp_storeC rfl rfl _ _ rfl (wz2.heap.size) BV BM rfl rfl _ hx3 rfl hBV hBM none rfl ?_
          refine ⟨⟨⟨_, below_setRow hy3 hbl _⟩, rfl⟩, ?_⟩
          refine wpAnyH_all (rs := [11]) (by kernel_rfl) (by decide) ?_
          intro i hi
          obtain rfl := List.mem_singleton.1 hi
          refine wpOp_assign rfl rfl _ rfl (.int .i64 0) rfl (some 7) rfl ?_
          refine ⟨⟨⟨_, below_setRow hy3 hbl _⟩, rfl⟩, ?_⟩
          refine wpAnyH_done (by kernel_rfl) ?_ _
          exact ⟨rfl, wz2.heap.size, _, _, _, _, _, _, _, _, _, rfl, hbl, setRow_heap _ _ _ _ _ _ hx3, below_setRow hy3 hbl _⟩
        · refine wpOp_allocC rfl rfl rfl (some 6) rfl ?_
          have hy4 : Below w2.heap.size w2 (wz1.alloc (.cells zeroC 37)) := hy1.alloc hy1.size _
          have hx4 : (wz1.alloc (.cells zeroC 37)).heap[wz1.heap.size]? = some (.cells zeroC 37 (0, 0)) := heap_new _ _ _ rfl
          refine ⟨⟨⟨_, hy4⟩, rfl⟩, ?_⟩
          simp only [Act.put, List.setIfInBounds_toArray, List.set_cons_succ, List.set_cons_zero]
          refine wpAnyH_all (rs := [5]) (by kernel_rfl) (by decide) ?_
          intro i hi
          obtain rfl := List.mem_singleton.1 hi
          refine wpOp_call rfl rfl 34 #[.const (.int .i64 1), .tmp 36, .tmp 39] (by intro b w; have hf := Tryz.func34; simp [go_sem]) #[.int .i64 1, .int .u32 x.dst, .int .i64 (k1 : Int)] rfl (fun v w' => v = .tuple #[.agg (cv BV BM), .int .i64 0] ∧ Below (wz1.alloc (.cells zeroC 37)).heap.size (wz1.alloc (.cells zeroC 37)) w') ((PX1.out _).mono fun e w' h => ⟨_, h.1, rfl, h.2⟩) (some 40) rfl ?_
          rintro v wz5 ⟨rfl, hz5⟩
          have hy5 : Below w2.heap.size w2 wz5 := hy4.trans (hz5.mono hy4.size)
          have hx5 : wz5.heap[wz1.heap.size]? = some (.cells zeroC 37 (0, 0)) := (hz5.block _ (Array.getElem?_eq_some_iff.1 hx4).1).trans hx4
          refine ⟨⟨⟨wz5, hy5⟩, rfl⟩, ?_⟩
          simp only [Act.put, List.setIfInBounds_toArray, List.set_cons_succ, List.set_cons_zero]
          refine region_reads 6 3 2 rfl (by kernel_rfl) (by kernel_rfl) (by kernel_rfl) (by intro d v c a w h; exact absurd h.1 (by simp)) ⟨⟨wz5, hy5⟩, rfl⟩ ?_
          simp only [List.drop_succ_cons, List.drop_zero, List.take_succ_cons, List.take_zero]
          repeat go_big_quiet_step (fail)
          refine wpQuiet_nil ?_
          refine wpAnyH_all (rs := [10]) (by kernel_rfl) (by decide) ?_
          intro i hi
          obtain rfl := List.mem_singleton.1 hi
          have hbl : w2.heap.size ≤ wz1.heap.size := by have := hy1.size; exact this
          refine wpOp_storeC rfl rfl _ _ rfl (wz1.heap.size) BV BM rfl rfl _ hx5 rfl hBV hBM none rfl ?_
          refine ⟨⟨⟨_, below_setRow hy5 hbl _⟩, rfl⟩, ?_⟩
          refine wpAnyH_all (rs := [11]) (by kernel_rfl) (by decide) ?_
          intro i hi
          obtain rfl := List.mem_singleton.1 hi
          refine wpOp_assign rfl rfl _ rfl (.int .i64 0) rfl (some 7) rfl ?_
          refine ⟨⟨⟨_, below_setRow hy5 hbl _⟩, rfl⟩, ?_⟩
          refine wpAnyH_done (by kernel_rfl) ?_ _
          exact ⟨rfl, wz1.heap.size, _, _, _, _, _, _, _, _, _, rfl, hbl, setRow_heap _ _ _ _ _ _ hx5, below_setRow hy5 hbl _⟩
      · refine wpOp_allocC rfl rfl rfl (some 6) rfl ?_
        have hy6 : Below w2.heap.size w2 (w2.drew.alloc (.cells zeroC 37)) := (Below.refl w2.heap.size w2).drew.alloc (Below.refl w2.heap.size w2).drew.size _
        have hx6 : (w2.drew.alloc (.cells zeroC 37)).heap[w2.drew.heap.size]? = some (.cells zeroC 37 (0, 0)) := heap_new _ _ _ rfl
        refine ⟨⟨⟨_, hy6⟩, rfl⟩, ?_⟩
        simp only [Act.put, List.setIfInBounds_toArray, List.set_cons_succ, List.set_cons_zero]
        refine wpAnyH_all (rs := [4]) (by kernel_rfl) (by decide) ?_
        intro i hi
        obtain rfl := List.mem_singleton.1 hi
        refine wpOp_call rfl rfl 35 #[.tmp 38] (by intro b w; have hf := Tryz.func35; simp [go_sem]) #[.int .i64 x.dstBits] rfl (fun v w' => v = .int .i64 (k1 : Int) ∧ Below (w2.drew.alloc (.cells zeroC 37)).heap.size (w2.drew.alloc (.cells zeroC 37)) w') ((CL1.out _).mono fun e w' h => ⟨_, h.1, rfl, h.2⟩) (some 39) rfl ?_
        rintro v wz7 ⟨rfl, hz7⟩
        have hy7 : Below w2.heap.size w2 wz7 := hy6.trans (hz7.mono hy6.size)
        have hx7 : wz7.heap[w2.drew.heap.size]? = some (.cells zeroC 37 (0, 0)) := (hz7.block _ (Array.getElem?_eq_some_iff.1 hx6).1).trans hx6
        refine ⟨⟨⟨wz7, hy7⟩, rfl⟩, ?_⟩
        simp only [Act.put, List.setIfInBounds_toArray, List.set_cons_succ, List.set_cons_zero]
        refine wpAnyH_all (rs := [5]) (by kernel_rfl) (by decide) ?_
        intro i hi
        obtain rfl := List.mem_singleton.1 hi
        refine wpOp_call rfl rfl 34 #[.const (.int .i64 1), .tmp 36, .tmp 39] (by intro b w; have hf := Tryz.func34; simp [go_sem]) #[.int .i64 1, .int .u32 x.dst, .int .i64 (k1 : Int)] rfl (fun v w' => v = .tuple #[.agg (cv BV BM), .int .i64 0] ∧ Below wz7.heap.size wz7 w') ((PX1.out _).mono fun e w' h => ⟨_, h.1, rfl, h.2⟩) (some 40) rfl ?_
        rintro v wz8 ⟨rfl, hz8⟩
        have hy8 : Below w2.heap.size w2 wz8 := hy7.trans (hz8.mono hy7.size)
        have hx8 : wz8.heap[w2.drew.heap.size]? = some (.cells zeroC 37 (0, 0)) := (hz8.block _ (Array.getElem?_eq_some_iff.1 hx7).1).trans hx7
        refine ⟨⟨⟨wz8, hy8⟩, rfl⟩, ?_⟩
        simp only [Act.put, List.setIfInBounds_toArray, List.set_cons_succ, List.set_cons_zero]
        refine region_reads 6 3 2 rfl (by kernel_rfl) (by kernel_rfl) (by kernel_rfl) (by intro d v c a w h; exact absurd h.1 (by simp)) ⟨⟨wz8, hy8⟩, rfl⟩ ?_
        simp only [List.drop_succ_cons, List.drop_zero, List.take_succ_cons, List.take_zero]
        repeat go_big_quiet_step (fail)
        refine wpQuiet_nil ?_
        refine wpAnyH_all (rs := [10]) (by kernel_rfl) (by decide) ?_
        intro i hi
        obtain rfl := List.mem_singleton.1 hi
        have hbl : w2.heap.size ≤ w2.drew.heap.size := Nat.le_refl _
        refine wpOp_storeC rfl rfl _ _ rfl (w2.drew.heap.size) BV BM rfl rfl _ hx8 rfl hBV hBM none rfl ?_
        refine ⟨⟨⟨_, below_setRow hy8 hbl _⟩, rfl⟩, ?_⟩
        refine wpAnyH_all (rs := [11]) (by kernel_rfl) (by decide) ?_
        intro i hi
        obtain rfl := List.mem_singleton.1 hi
        refine wpOp_assign rfl rfl _ rfl (.int .i64 0) rfl (some 7) rfl ?_
        refine ⟨⟨⟨_, below_setRow hy8 hbl _⟩, rfl⟩, ?_⟩
        refine wpAnyH_done (by kernel_rfl) ?_ _
        exact ⟨rfl, w2.drew.heap.size, _, _, _, _, _, _, _, _, _, rfl, hbl, setRow_heap _ _ _ _ _ _ hx8, below_setRow hy8 hbl _⟩
    · rintro a' w' ⟨gq, y34, y35, y36, y37, y38, y39, y40, y41, y42, rfl, hgq, hcq, hbq⟩
      simp only [Act.put, List.setIfInBounds_toArray, List.set_cons_succ, List.set_cons_zero]
      have N3 : Hid (w'.heap[w.heap.size]? = some (.cells (entV x) 35 (0, 0))) := (hbq.block _ (Array.getElem?_eq_some_iff.1 N2.out).1).trans N2.out
      have Z3 : Hid (w'.heap[w.heap.size + 1]? = some (.cells (cv Z Z) 37 (0, 0))) := (hbq.block _ (Array.getElem?_eq_some_iff.1 Z2.out).1).trans Z2.out
      have A3 : Hid (w'.heap[g4]? = some (.cells (cv AV AM) 37 (0, 0))) := (hbq.block _ (Array.getElem?_eq_some_iff.1 A2.out).1).trans A2.out
      have C3 : Hid (w'.heap[gq]? = some (.cells (cv BV BM) 37 (0, 0))) := hcq
      have B3 : Hid (Below w.heap.size w w') := B2.out.trans (hbq.mono B2.out.size)
      clear l4 l5 ne1 hcq hbq hgq N2 Z2 A2 B2 CL1 PX1
      obtain ⟨w3, hw3⟩ : ∃ w3, w3 = w' := ⟨_, rfl⟩
      rw [← hw3] at N3 Z3 A3 C3 B3 ⊢
      obtain ⟨g6, hg6⟩ : ∃ g, g = gq := ⟨_, rfl⟩
      rw [← hg6] at C3 ⊢
      clear hw3 hg6
      obtain ⟨f0, f2, f3, f4, f5, f6, f7, f8, f9, f10, f11⟩ := ent_g N3.out
      go_wp2_with fail
      refine (PS.out _).mono ?_
      rintro e w4 ⟨vs, rfl, hs4, hb4⟩
      have N4 : Hid (w4.heap[w.heap.size]? = some (.cells (entV x) 35 (0, 0))) := (hb4.block _ (Array.getElem?_eq_some_iff.1 N3.out).1).trans N3.out
      have Z4 : Hid (w4.heap[w.heap.size + 1]? = some (.cells (cv Z Z) 37 (0, 0))) := (hb4.block _ (Array.getElem?_eq_some_iff.1 Z3.out).1).trans Z3.out
      have A4 : Hid (w4.heap[g4]? = some (.cells (cv AV AM) 37 (0, 0))) := (hb4.block _ (Array.getElem?_eq_some_iff.1 A3.out).1).trans A3.out
      have C4 : Hid (w4.heap[g6]? = some (.cells (cv BV BM) 37 (0, 0))) := (hb4.block _ (Array.getElem?_eq_some_iff.1 C3.out).1).trans C3.out
      have B4 : Hid (Below w.heap.size w w4) := B3.out.trans (hb4.mono B3.out.size)
      have S4 : Hid (Sl w4 vs S) := hs4
      obtain ⟨os, cs, rfl, _, _⟩ := Sl.slice hs4
      obtain ⟨ns, hns⟩ : ∃ n, n = S.length := ⟨_, rfl⟩
      rw [← hns] at S4 ⊢
      have HNS : Hid (ns = S.length) := hns
      clear hns
      clear hs4 hb4 N3 Z3 A3 C3 B3 f0 f2 f3 f4 f5 f6 f7 f8 f9 f10 f11
      obtain ⟨f0, f2, f3, f4, f5, f6, f7, f8, f9, f10, f11⟩ := ent_g N4.out
      go_wp2_with fail
      refine (PD.out _).mono ?_
      rintro e wp ⟨vd, rfl, hs5, hb5⟩
      have NP : Hid (wp.heap[w.heap.size]? = some (.cells (entV x) 35 (0, 0))) := (hb5.block _ (Array.getElem?_eq_some_iff.1 N4.out).1).trans N4.out
      have ZP : Hid (wp.heap[w.heap.size + 1]? = some (.cells (cv Z Z) 37 (0, 0))) := (hb5.block _ (Array.getElem?_eq_some_iff.1 Z4.out).1).trans Z4.out
      have AP : Hid (wp.heap[g4]? = some (.cells (cv AV AM) 37 (0, 0))) := (hb5.block _ (Array.getElem?_eq_some_iff.1 A4.out).1).trans A4.out
      have CP : Hid (wp.heap[g6]? = some (.cells (cv BV BM) 37 (0, 0))) := (hb5.block _ (Array.getElem?_eq_some_iff.1 C4.out).1).trans C4.out
      have BP : Hid (Below w.heap.size w wp) := B4.out.trans (hb5.mono B4.out.size)
      have SP : Hid (Sl wp (.slice os ns cs) S) := S4.out.below hb5
      have DP : Hid (Sl wp vd D) := hs5
      obtain ⟨od, cd, rfl, _, _⟩ := Sl.slice hs5
      obtain ⟨nd, hnd⟩ : ∃ n, n = D.length := ⟨_, rfl⟩
      rw [← hnd] at DP ⊢
      have HND : Hid (nd = D.length) := hnd
      clear hnd
      clear hs5 hb5 N4 Z4 A4 C4 B4 S4 f0 f2 f3 f4 f5 f6 f7 f8 f9 f10 f11
      have f10 : (wp.alloc (.cells (cv Z Z) 37)).cell? ⟨w.heap.size, 10, none⟩ = some (.int .i64 x.proto) := (ent_g (heap_past _ _ _ _ NP.out)).2.2.2.2.2.2.2.2.2.1
      have P6 : Hid ((wp.alloc (.cells (cv Z Z) 37)).heap[wp.heap.size]? = some (.cells (cv Z Z) 37 (0, 0))) := heap_new _ _ _ rfl
      have B6 : Hid (Below wp.heap.size wp (wp.alloc (.cells (cv Z Z) 37))) := (Below.refl _ _).alloc (Nat.le_refl _) _
      by_cases hpe : x.proto = -1
      · rw [hpe] at f10
        have e1 := PE.out hpe
        have e2 := PF.out hpe
        have P6 : Hid ((wp.alloc (.cells (cv Z Z) 37)).heap[wp.heap.size]? = some (.cells (cv PV PM) 37 (0, 0))) := by rw [e1, e2]; exact P6.out
        clear e1 e2
        go_wp2_with (first
          | (refine wl_loadC rfl _ rfl (w.heap.size + 1) rfl Z Z ZP.out hZl hZl ?_)
          | (refine wl_storeC rfl _ _ rfl wp.heap.size Z Z rfl rfl _ (heap_new _ _ _ rfl) rfl hZl hZl _ (setRow_new _ _ _ _ _ rfl) ?_)
          | (refine wl_loadC rfl _ rfl g4 rfl AV AM (heap_past _ _ _ _ AP.out) hAV hAM ?_)
          | (refine wl_loadC rfl _ rfl g6 rfl BV BM (heap_past _ _ _ _ CP.out) hBV hBM ?_))
        refine (M1.out _).mono ?_
        rintro e w7 ⟨rfl, hb7⟩
        have B7 : Hid (Below wp.heap.size wp w7) := B6.out.trans (hb7.mono B6.out.size)
        have P7 : Hid (w7.heap[wp.heap.size]? = some (.cells (cv PV PM) 37 (0, 0))) := (hb7.block _ (Array.getElem?_eq_some_iff.1 P6.out).1).trans P6.out
        have F7 : Hid ((w7.alloc (.cells (cv FV FM) 37)).heap[w7.heap.size]? = some (.cells (cv FV FM) 37 (0, 0))) := heap_new _ _ _ rfl
        have BA : Hid (Below wp.heap.size wp (w7.alloc (.cells (cv FV FM) 37))) := B7.out.alloc B7.out.size _
        clear hb7 P6 B6
        go_wp2_with (first
          | (refine wl_storeC rfl _ _ rfl w7.heap.size FV FM rfl rfl _ (heap_new _ _ _ rfl) rfl hFV hFM _ (setRow_new _ _ _ _ _ rfl) ?_)
          | (refine wl_loadC rfl _ rfl w7.heap.size rfl FV FM F7.out hFV hFM ?_)
          | (refine wl_loadC rfl _ rfl wp.heap.size rfl PV PM (heap_past _ _ _ _ P7.out) hPV hPM ?_))
        refine (M2.out _).mono ?_
        rintro e w8 ⟨rfl, hb8⟩
        have F8 : Hid (w8.heap[w7.heap.size]? = some (.cells (cv FV FM) 37 (0, 0))) := (hb8.block _ (Array.getElem?_eq_some_iff.1 F7.out).1).trans F7.out
        have B8 : Hid (Below wp.heap.size wp (w8.setRow w7.heap.size (cv CV CM))) := below_setRow (BA.out.trans (hb8.mono BA.out.size)) B7.out.size _
        have C8 : Hid ((w8.setRow w7.heap.size (cv CV CM)).heap[w7.heap.size]? = some (.cells (cv CV CM) 37 (0, 0))) := setRow_heap _ _ _ _ _ _ F8.out
        clear hb8 F7 BA P7 B7
        go_wp2_with (first
          | (refine wl_storeC rfl _ _ rfl w7.heap.size CV CM rfl rfl _ F8.out (cv_size _ _ hFV hFM) hCV hCM _ rfl ?_)
          | (refine wl_build0R (E := CubE) CubOk rfl rfl ?_))
        obtain ⟨wb, hwb⟩ : ∃ wb, wb = w8.setRow w7.heap.size (cv CV CM) := ⟨_, rfl⟩
        rw [← hwb] at B8 C8 ⊢
        obtain ⟨g13, hg13⟩ : ∃ g, g = w7.heap.size := ⟨_, rfl⟩
        rw [← hg13] at C8 ⊢
        have SB : Hid (Sl wb (.slice os ns cs) S) := SP.out.below B8.out
        have DB : Hid (Sl wb (.slice od nd cd) D) := DP.out.below B8.out
        have BB : Hid (Below w.heap.size w wb) := BP.out.trans (B8.out.mono BP.out.size)
        have hsb : (w8.setRow w7.heap.size (cv CV CM)).heap.size = w8.heap.size := by simp [World.setRow]
        rw [← hwb] at hsb
        clear hwb hg13 F8 SP DP BP B8 AP CP NP ZP f10
        have hn1 : ns ≤ 30 := by have h1 := HSL.out; have h2 := HNS.out; omega
        have hn2 : nd ≤ 30 := by have h1 := HDL.out; have h2 := HND.out; omega
        go_loopw [15, 16] (fun v i wr => ∃ (k : Nat) (X : List CubeT), k ≤ ns ∧ i = .int .i64 (k : Int) ∧ Hid (X = allRows (CV, CM) (S.take k) D) ∧ wr.ownsRow wb.heap.size 37 26 v X.length (ccells X) ∧ Below wb.heap.size wb wr) (fun _ i _ => ns - (intOf i).toNat)
        case atStart => exact ⟨0, [], Nat.zero_le _, rfl, rfl, by first | exact own0R wb _ _ | (rw [← hsb]; exact own0R wb _ _) | (simpa [hsb] using own0R wb _ _), (Below.refl _ _).alloc (Nat.le_refl _) _⟩
        case round =>
          obtain ⟨k, X, hk, rfl, HX, hown, hb⟩ := hrel
          obtain ⟨wo, hwo⟩ : ∃ wo : World, wo = wr := ⟨_, rfl⟩
          rw [← hwo] at hown hb ⊢
          have OWO : Hid (wo.ownsRow wb.heap.size 37 26 u15 X.length (ccells X)) := hown
          have HBO : Hid (Below wb.heap.size wb wo) := hb
          clear hwo wr hown hb
          by_cases hlt : k < ns
          · have hlt' : (k : Int) < (ns : Int) := by omega
            obtain ⟨g, off, cur, t, fr, U, N, rfl, hg, hc, hSk, hU, hN⟩ := SB.out.at k hlt
            have hUl := hU.1
            have hNl := hN.1
            have HG : Hid (wb.heap[g]? = some (.cells cur t fr)) := hg
            have HC : Hid (∀ j, j < 26 → cur[off + k * 26 + j]? = (cv U N)[j]?) := hc
            have HSK : Hid (S[k]? = some (U, N)) := hSk
            have HMS : Hid ((U, N) ∈ S) := List.mem_of_getElem? hSk
            obtain ⟨⟨GV, GM⟩, hGM⟩ : ∃ c, c = met (CV, CM) (U, N) := ⟨_, rfl⟩
            have hGl : GV.length = 13 ∧ GM.length = 13 := by have := met_byt (CV, CM) (U, N); rw [← hGM] at this; exact ⟨this.1.1, this.2.1⟩
            have hGV := hGl.1
            have hGMl := hGl.2
            have HGM : Hid ((GV, GM) = met (CV, CM) (U, N)) := hGM
            have D1 : Hid (∀ W, Calls Tryz.prog 38 #[.agg (cv CV CM), .agg (cv U N)] W fun e w' => e = .returned (.tuple #[.agg (cv GV GM), .bool true]) ∧ Below W.heap.size W w') := fun W => by
              have := MS.out _ HMS.out W
              rw [← hGM] at this
              exact this
            clear hg hc hSk hU hN hGM hGl
            go_wp2_with fail
            go_loopw [15, 17] (fun v i wr => ∃ (j : Nat) (Y : List CubeT), j ≤ nd ∧ i = .int .i64 (j : Int) ∧ Hid (Y = X ++ rowC (CV, CM) (U, N) (D.take j)) ∧ wr.ownsRow wb.heap.size 37 26 v Y.length (ccells Y) ∧ Below wb.heap.size wb wr) (fun _ i _ => nd - (intOf i).toNat)
            case atStart => exact ⟨0, X, Nat.zero_le _, rfl, by show X = _; rw [List.take_zero, row_none, List.append_nil], OWO.out, HBO.out⟩
            case round =>
              obtain ⟨j, Y, hj, rfl, HY, hown, hb⟩ := hrel
              have OWN : Hid (wr.ownsRow wb.heap.size 37 26 u15 Y.length (ccells Y)) := hown
              have HBI : Hid (Below wb.heap.size wb wr) := hb
              have HYL : Hid (Y.length ≤ 10000) := by
                show _ ≤ _
                rw [HY.out, HX.out, List.length_append, rows_len, row_len, List.length_take, List.length_take]
                have h1 := HSL.out
                have h2 := HDL.out
                have := Nat.mul_le_mul (show min k S.length ≤ 30 by omega) h2
                omega
              clear hown hb
              by_cases hjl : j < nd
              · have hjl' : (j : Int) < (nd : Int) := by omega
                obtain ⟨g2, off2, cur2, t2, fr2, U2, N2, rfl, hg2, hc2, hDj, hU2, hN2⟩ := DB.out.at j hjl
                have hUl2 := hU2.1
                have hNl2 := hN2.1
                have hg1' : wr.heap[g]? = some (.cells cur t fr) := (HBI.out.block g (Array.getElem?_eq_some_iff.1 HG.out).1).trans HG.out
                have c13 : wr.heap[g13]? = some (.cells (cv CV CM) 37 (0, 0)) := (HBI.out.block _ (Array.getElem?_eq_some_iff.1 C8.out).1).trans C8.out
                have HG2 : Hid (wr.heap[g2]? = some (.cells cur2 t2 fr2)) := (HBI.out.block g2 (Array.getElem?_eq_some_iff.1 hg2).1).trans hg2
                have HC2 : Hid (∀ i, i < 26 → cur2[off2 + j * 26 + i]? = (cv U2 N2)[i]?) := hc2
                have HDJ : Hid (D[j]? = some (U2, N2)) := hDj
                obtain ⟨⟨HV, HM⟩, hHM⟩ : ∃ c, c = met (met (CV, CM) (U, N)) (U2, N2) := ⟨_, rfl⟩
                have hHl : HV.length = 13 ∧ HM.length = 13 := by have := met_byt (met (CV, CM) (U, N)) (U2, N2); rw [← hHM] at this; exact ⟨this.1.1, this.2.1⟩
                have hHV := hHl.1
                have hHMl := hHl.2
                have HHM : Hid ((HV, HM) = met (met (CV, CM) (U, N)) (U2, N2)) := hHM
                have D2 : Hid (∀ W, Calls Tryz.prog 38 #[.agg (cv GV GM), .agg (cv U2 N2)] W fun e w' => e = .returned (.tuple #[.agg (cv HV HM), .bool true]) ∧ Below W.heap.size W w') := fun W => by
                  have := MD.out _ HMS.out _ (List.mem_of_getElem? hDj) W
                  rw [← hHM, ← HGM.out] at this
                  exact this
                clear hg2 hc2 hDj hU2 hN2 hHM hHl
                go_wp2_with fail
                have ne1 := Later.ne wr
                refine region_cut (fun a a' w' => ∃ gq y94 y95 y96 y97 y98 y99 y100 y101 y102, a' = (((((((((((a.put (some 18) (.pointer (some ⟨gq, 0, none⟩))).put (some 19) (.bool true)).put (some 94) y94).put (some 95) y95).put (some 96) y96).put (some 97) y97).put (some 98) y98).put (some 99) y99).put (some 100) y100).put (some 101) y101).put (some 102) y102) ∧ wr.heap.size ≤ gq ∧ w'.heap[gq]? = some (.cells (cv GV GM) 37 (0, 0)) ∧ Below wr.heap.size wr w') ?_ ?_
                · refine region_begin 12 rfl (by kernel_rfl) ?_
                  refine region_reads 0 5 7 rfl (by kernel_rfl) (by kernel_rfl) (by kernel_rfl) (by intro d v c a w h; exact absurd h.1 (by simp)) ⟨⟨wr.drew, (Below.refl _ _).drew⟩, rfl⟩ ?_
                  simp only [List.drop_zero, List.take_succ_cons, List.take_zero]
                  refine qlC rfl _ rfl g13 rfl CV CM c13 hCV hCM ?_
                  simp only [Act.put, List.setIfInBounds_toArray, List.set_cons_succ, List.set_cons_zero]
                  go_big_quiet_step (fail)
                  go_big_quiet_step (fail)
                  go_big_quiet_step (fail)
                  refine qlSl rfl _ rfl g (off + k * 26) rfl cur t fr U N hUl hNl hg1' HC.out ?_
                  simp only [Act.put, List.setIfInBounds_toArray, List.set_cons_succ, List.set_cons_zero]
                  refine wpQuiet_nil ?_
                  refine wpAnyH_all (rs := [5, 9]) (by kernel_rfl) (by decide) ?_
                  intro i hi
                  simp only [List.mem_cons, List.not_mem_nil, or_false] at hi
                  rcases hi with rfl | rfl
                  · refine wpOp_call rfl rfl 38 #[.tmp 95, .tmp 99] (by intro b w; have hf := Tryz.func38; simp [go_sem]) #[.agg (cv CV CM), .agg (cv U N)] rfl (fun v w' => v = .tuple #[.agg (cv GV GM), .bool true] ∧ Below wr.drew.heap.size wr.drew w') ((D1.out _).mono fun e w' h => ⟨_, h.1, rfl, h.2⟩) (some 100) rfl ?_
                    rintro v wz1 ⟨rfl, hz1⟩
                    have hy1 : Below wr.heap.size wr wz1 := (Below.refl wr.heap.size wr).drew.trans (hz1.mono (Below.refl wr.heap.size wr).drew.size)
                    refine ⟨⟨⟨wz1, hy1⟩, rfl⟩, ?_⟩
                    simp only [Act.put, List.setIfInBounds_toArray, List.set_cons_succ, List.set_cons_zero]
                    refine region_reads 6 3 3 rfl (by kernel_rfl) (by kernel_rfl) (by kernel_rfl) (by intro d v c a w h; exact absurd h.1 (by simp)) ⟨⟨wz1, hy1⟩, rfl⟩ ?_
                    simp only [List.drop_succ_cons, List.drop_zero, List.take_succ_cons, List.take_zero]
                    repeat go_big_quiet_step (fail)
                    refine wpQuiet_nil ?_
                    refine wpAnyH_all (rs := [9]) (by kernel_rfl) (by decide) ?_
                    intro i hi
                    obtain rfl := List.mem_singleton.1 hi
                    refine wpOp_allocC rfl rfl rfl (some 18) rfl ?_
                    have hy2 : Below wr.heap.size wr (wz1.alloc (.cells zeroC 37)) := hy1.alloc hy1.size _
                    have hx2 : (wz1.alloc (.cells zeroC 37)).heap[wz1.heap.size]? = some (.cells zeroC 37 (0, 0)) := heap_new _ _ _ rfl
                    refine ⟨⟨⟨_, hy2⟩, rfl⟩, ?_⟩
                    simp only [Act.put, List.setIfInBounds_toArray, List.set_cons_succ, List.set_cons_zero]
                    refine wpAnyH_all (rs := [10]) (by kernel_rfl) (by decide) ?_
                    intro i hi
                    obtain rfl := List.mem_singleton.1 hi
                    have hbl : wr.heap.size ≤ wz1.heap.size := by have := hy1.size; exact this
                    refine wpOp_storeC rfl rfl _ _ rfl (wz1.heap.size) GV GM rfl rfl _ hx2 rfl hGV hGMl none rfl ?_
                    refine ⟨⟨⟨_, below_setRow hy2 hbl _⟩, rfl⟩, ?_⟩
                    refine wpAnyH_all (rs := [11]) (by kernel_rfl) (by decide) ?_
                    intro i hi
                    obtain rfl := List.mem_singleton.1 hi
                    refine wpOp_assign rfl rfl _ rfl (.bool true) rfl (some 19) rfl ?_
                    refine ⟨⟨⟨_, below_setRow hy2 hbl _⟩, rfl⟩, ?_⟩
                    refine wpAnyH_done (by kernel_rfl) ?_ _
                    exact ⟨rfl, wz1.heap.size, _, _, _, _, _, _, _, _, _, rfl, hbl, setRow_heap _ _ _ _ _ _ hx2, below_setRow hy2 hbl _⟩
                  · refine wpOp_allocC rfl rfl rfl (some 18) rfl ?_
                    have hy3 : Below wr.heap.size wr (wr.drew.alloc (.cells zeroC 37)) := (Below.refl wr.heap.size wr).drew.alloc (Below.refl wr.heap.size wr).drew.size _
                    have hx3 : (wr.drew.alloc (.cells zeroC 37)).heap[wr.drew.heap.size]? = some (.cells zeroC 37 (0, 0)) := heap_new _ _ _ rfl
                    refine ⟨⟨⟨_, hy3⟩, rfl⟩, ?_⟩
                    simp only [Act.put, List.setIfInBounds_toArray, List.set_cons_succ, List.set_cons_zero]
                    refine wpAnyH_all (rs := [5]) (by kernel_rfl) (by decide) ?_
                    intro i hi
                    obtain rfl := List.mem_singleton.1 hi
                    refine wpOp_call rfl rfl 38 #[.tmp 95, .tmp 99] (by intro b w; have hf := Tryz.func38; simp [go_sem]) #[.agg (cv CV CM), .agg (cv U N)] rfl (fun v w' => v = .tuple #[.agg (cv GV GM), .bool true] ∧ Below (wr.drew.alloc (.cells zeroC 37)).heap.size (wr.drew.alloc (.cells zeroC 37)) w') ((D1.out _).mono fun e w' h => ⟨_, h.1, rfl, h.2⟩) (some 100) rfl ?_
                    rintro v wz4 ⟨rfl, hz4⟩
                    have hy4 : Below wr.heap.size wr wz4 := hy3.trans (hz4.mono hy3.size)
                    have hx4 : wz4.heap[wr.drew.heap.size]? = some (.cells zeroC 37 (0, 0)) := (hz4.block _ (Array.getElem?_eq_some_iff.1 hx3).1).trans hx3
                    refine ⟨⟨⟨wz4, hy4⟩, rfl⟩, ?_⟩
                    simp only [Act.put, List.setIfInBounds_toArray, List.set_cons_succ, List.set_cons_zero]
                    refine region_reads 6 3 2 rfl (by kernel_rfl) (by kernel_rfl) (by kernel_rfl) (by intro d v c a w h; exact absurd h.1 (by simp)) ⟨⟨wz4, hy4⟩, rfl⟩ ?_
                    simp only [List.drop_succ_cons, List.drop_zero, List.take_succ_cons, List.take_zero]
                    repeat go_big_quiet_step (fail)
                    refine wpQuiet_nil ?_
                    refine wpAnyH_all (rs := [10]) (by kernel_rfl) (by decide) ?_
                    intro i hi
                    obtain rfl := List.mem_singleton.1 hi
                    have hbl : wr.heap.size ≤ wr.drew.heap.size := Nat.le_refl _
                    refine wpOp_storeC rfl rfl _ _ rfl (wr.drew.heap.size) GV GM rfl rfl _ hx4 rfl hGV hGMl none rfl ?_
                    refine ⟨⟨⟨_, below_setRow hy4 hbl _⟩, rfl⟩, ?_⟩
                    refine wpAnyH_all (rs := [11]) (by kernel_rfl) (by decide) ?_
                    intro i hi
                    obtain rfl := List.mem_singleton.1 hi
                    refine wpOp_assign rfl rfl _ rfl (.bool true) rfl (some 19) rfl ?_
                    refine ⟨⟨⟨_, below_setRow hy4 hbl _⟩, rfl⟩, ?_⟩
                    refine wpAnyH_done (by kernel_rfl) ?_ _
                    exact ⟨rfl, wr.drew.heap.size, _, _, _, _, _, _, _, _, _, rfl, hbl, setRow_heap _ _ _ _ _ _ hx4, below_setRow hy4 hbl _⟩
                · rintro a' w' ⟨gq, y94, y95, y96, y97, y98, y99, y100, y101, y102, rfl, hgq, hcq, hbq⟩
                  simp only [Act.put, List.setIfInBounds_toArray, List.set_cons_succ, List.set_cons_zero]
                  have OW2 : Hid (w'.ownsRow wb.heap.size 37 26 u15 Y.length (ccells Y)) := own_below OWN.out hbq
                  have NE2 : Hid (u15.ownBlock ≠ some gq) := own_ne OWN.out hgq
                  have hg2' : w'.heap[g2]? = some (.cells cur2 t2 fr2) := (hbq.block _ (Array.getElem?_eq_some_iff.1 HG2.out).1).trans HG2.out
                  have c18 : w'.heap[gq]? = some (.cells (cv GV GM) 37 (0, 0)) := hcq
                  have B5 : Hid (Below wb.heap.size wb w') := HBI.out.trans (hbq.mono HBI.out.size)
                  have GQ : Hid (wb.heap.size ≤ gq) := Nat.le_trans HBI.out.size hgq
                  clear hg1' c13 HG2 D1 ne1 OWN HBI hcq hbq hgq
                  obtain ⟨w5, hw5⟩ : ∃ w5, w5 = w' := ⟨_, rfl⟩
                  rw [← hw5] at OW2 hg2' c18 B5 ⊢
                  clear hw5
                  go_wp2_with fail
                  have ne1 := Later.ne w5
                  refine wp_region_head 6 4 #[true, true, true, true, true, true, false, false, false, false] (by kernel_rfl) (by kernel_rfl) (by kernel_rfl) (by kernel_rfl) (by kernel_rfl) (by kernel_rfl) rfl ?_
                  simp only [List.take_succ_cons, List.take_zero]
                  refine qlC rfl _ rfl gq rfl GV GM c18 hGV hGMl ?_
                  simp only [Act.put, List.setIfInBounds_toArray, List.set_cons_succ, List.set_cons_zero]
                  go_big_quiet_step (fail)
                  go_big_quiet_step (fail)
                  go_big_quiet_step (fail)
                  refine qlSl rfl _ rfl g2 (off2 + j * 26) rfl cur2 t2 fr2 U2 N2 hUl2 hNl2 hg2' HC2.out ?_
                  simp only [Act.put, List.setIfInBounds_toArray, List.set_cons_succ, List.set_cons_zero]
                  go_big_quiet_want; go_big_quiet_op
                  refine ⟨_, fun u => Calls.later_of (D2.out u.world), ?_⟩
                  go_big_quiet_on
                  refine wpQuiet_nil ?_
                  rintro w' ⟨u, rfl⟩
                  have k2 := later_block c18 _ ⟨u, rfl⟩
                  have OW3 : Hid ((u.world.setRow gq (cv HV HM)).ownsRow wb.heap.size 37 26 u15 Y.length (ccells Y)) := own_setRow_ne (own_below OW2.out u.below) gq NE2.out _
                  have B6 : Hid (Below wb.heap.size wb (u.world.setRow gq (cv HV HM))) := below_setRow (B5.out.trans (u.below.mono B5.out.size)) GQ.out _
                  have C6 : Hid ((u.world.setRow gq (cv HV HM)).heap[gq]? = some (.cells (cv HV HM) 37 (0, 0))) := setRow_heap _ _ _ _ _ _ k2
                  clear ne1 D2 hg2' c18 OW2 B5
                  refine any_fix6 (v := .tuple #[.agg (cv HV HM), .bool true]) (v0 := .agg (cv HV HM)) (v1 := .bool true) (w' := u.world.setRow gq (cv HV HM)) (by kernel_rfl) (by kernel_rfl) (by kernel_rfl) (by kernel_rfl) (by kernel_rfl) (by kernel_rfl) (by kernel_rfl) rfl rfl rfl rfl rfl (run_move _ _ _ _ _ _ rfl rfl)
                    (run_extract _ _ _ _ _ _ _ _ rfl rfl rfl) (run_extract _ _ _ _ _ _ _ _ rfl rfl rfl) (run_extract _ _ _ _ _ _ _ _ rfl rfl rfl) (run_extract _ _ _ _ _ _ _ _ rfl rfl rfl) (run_extract _ _ _ _ _ _ _ _ rfl rfl rfl)
                    (run_storeC _ _ _ _ _ rfl gq _ _ rfl rfl _ k2 (cv_size _ _ hGV hGMl) hHV hHMl) (run_storeC _ _ _ _ _ rfl gq _ _ rfl rfl _ k2 (cv_size _ _ hGV hGMl) hHV hHMl) rfl ?_
                  simp only [Act.put, List.setIfInBounds_toArray, List.set_cons_succ, List.set_cons_zero]
                  obtain ⟨w6, hw6⟩ : ∃ w6, w6 = u.world.setRow gq (cv HV HM) := ⟨_, rfl⟩
                  rw [← hw6] at OW3 B6 C6 ⊢
                  clear hw6 k2
                  go_wp2_with (first
                    | (refine wl_loadC rfl _ rfl gq rfl HV HM C6.out hHV hHMl ?_)
                    | (refine wl_build1 rfl _ rfl HV HM hHV hHMl rfl ?_)
                    | (at_builtin; refine of_stopped ?_))
                  unfold Stopped
                  have OW4 : Hid ((w6.alloc (.cells (cv HV HM) 37)).ownsRow wb.heap.size 37 26 u15 Y.length (ccells Y)) := OW3.out.alloc _
                  have B7 : Hid (Below wb.heap.size wb (w6.alloc (.cells (cv HV HM) 37))) := B6.out.alloc B6.out.size _
                  refine wl_append1 rfl _ _ rfl wb.heap.size u15 Y HV HM hHV hHMl rfl OW4.out w6.heap.size 1 rfl (heap_new _ _ _ rfl) (by have := HYL.out; omega) (by have := B6.out.size; simp; omega) ?_
                  intro v' w9 hown9 hgr9 _
                  have O9 : Hid (w9.ownsRow wb.heap.size 37 26 v' (Y ++ [(HV, HM)]).length (ccells (Y ++ [(HV, HM)]))) := hown9
                  have B9 : Hid (Below wb.heap.size wb w9) := B7.out.grown hgr9 B7.out.size (fun q hq => (OW4.out.lt q hq).1)
                  clear hown9 hgr9
                  simp only [Act.put, List.setIfInBounds_toArray, List.set_cons_succ, List.set_cons_zero]
                  go_wp2_with fail
                  go_roundw
                  case rel =>
                    refine ⟨j + 1, Y ++ [(HV, HM)], by omega, by go_num, ?_, O9.out, B9.out⟩
                    show Y ++ [(HV, HM)] = _
                    rw [row_take HDJ.out, HY.out, HHM.out, List.append_assoc]
                  case measure => simp [intOf]; omega
              · have hjl' : ¬ (j : Int) < (nd : Int) := by omega
                go_wp2_with fail
                go_roundw
                case rel =>
                  refine ⟨k + 1, Y, by omega, by go_num, ?_, OWN.out, HBI.out⟩
                  show Y = _
                  rw [rows_take HSK.out, HY.out, HX.out, show D.take j = D from List.take_of_length_le (by have := HND.out; omega)]
                case measure => simp [intOf]; omega
          · have hlt' : ¬ (k : Int) < (ns : Int) := by omega
            have HXX : Hid (X = cubesT x) := by
              show X = _
              rw [HX.out, HCT.out, show S.take k = S from List.take_of_length_le (by have := HNS.out; omega)]
            go_wp2_with fail
            go_ret
            exact ⟨⟨_, rfl, by rw [← HXX.out]; exact own_base OWO.out BB.out.size⟩, BB.out.trans (HBO.out.mono BB.out.size)⟩
      · have hne : (x.proto != -1) = true := by simp [hpe]
        have PRR := PR.out hpe
        have PQ : Hid (∀ W, Calls Tryz.prog 37 #[.int .i64 x.proto] W fun e w' => e = .returned (.tuple #[.agg (cv PV PM), .int .i64 0]) ∧ Below W.heap.size W w') := PRR
        clear PRR
        go_wp2_with (first
          | (refine wl_loadC rfl _ rfl (w.heap.size + 1) rfl Z Z ZP.out hZl hZl ?_)
          | (refine wl_storeC rfl _ _ rfl wp.heap.size Z Z rfl rfl _ (heap_new _ _ _ rfl) rfl hZl hZl _ (setRow_new _ _ _ _ _ rfl) ?_))
        refine (PQ.out _).mono ?_
        rintro e w5 ⟨rfl, hb5⟩
        have P5 : Hid (w5.heap[wp.heap.size]? = some (.cells (cv Z Z) 37 (0, 0))) := (hb5.block _ (Array.getElem?_eq_some_iff.1 P6.out).1).trans P6.out
        have B5 : Hid (Below wp.heap.size wp (w5.setRow wp.heap.size (cv PV PM))) := below_setRow (B6.out.trans (hb5.mono B6.out.size)) (Nat.le_refl _) _
        have Q5 : Hid ((w5.setRow wp.heap.size (cv PV PM)).heap[wp.heap.size]? = some (.cells (cv PV PM) 37 (0, 0))) := setRow_heap _ _ _ _ _ _ P5.out
        have A5 : Hid ((w5.setRow wp.heap.size (cv PV PM)).heap[g4]? = some (.cells (cv AV AM) 37 (0, 0))) := (B5.out.block _ (Array.getElem?_eq_some_iff.1 AP.out).1).trans AP.out
        have C5 : Hid ((w5.setRow wp.heap.size (cv PV PM)).heap[g6]? = some (.cells (cv BV BM) 37 (0, 0))) := (B5.out.block _ (Array.getElem?_eq_some_iff.1 CP.out).1).trans CP.out
        clear hb5 P6 B6
        go_wp2_with (first
          | (refine wl_storeC rfl _ _ rfl wp.heap.size PV PM rfl rfl _ P5.out (cv_size _ _ hZl hZl) hPV hPM _ rfl ?_)
          | (refine wl_loadC rfl _ rfl g4 rfl AV AM A5.out hAV hAM ?_)
          | (refine wl_loadC rfl _ rfl g6 rfl BV BM C5.out hBV hBM ?_))
        have P6 := Q5
        have B6 := B5
        refine (M1.out _).mono ?_
        rintro e w7 ⟨rfl, hb7⟩
        have B7 : Hid (Below wp.heap.size wp w7) := B6.out.trans (hb7.mono B6.out.size)
        have P7 : Hid (w7.heap[wp.heap.size]? = some (.cells (cv PV PM) 37 (0, 0))) := (hb7.block _ (Array.getElem?_eq_some_iff.1 P6.out).1).trans P6.out
        have F7 : Hid ((w7.alloc (.cells (cv FV FM) 37)).heap[w7.heap.size]? = some (.cells (cv FV FM) 37 (0, 0))) := heap_new _ _ _ rfl
        have BA : Hid (Below wp.heap.size wp (w7.alloc (.cells (cv FV FM) 37))) := B7.out.alloc B7.out.size _
        clear hb7 P6 B6
        go_wp2_with (first
          | (refine wl_storeC rfl _ _ rfl w7.heap.size FV FM rfl rfl _ (heap_new _ _ _ rfl) rfl hFV hFM _ (setRow_new _ _ _ _ _ rfl) ?_)
          | (refine wl_loadC rfl _ rfl w7.heap.size rfl FV FM F7.out hFV hFM ?_)
          | (refine wl_loadC rfl _ rfl wp.heap.size rfl PV PM (heap_past _ _ _ _ P7.out) hPV hPM ?_))
        refine (M2.out _).mono ?_
        rintro e w8 ⟨rfl, hb8⟩
        have F8 : Hid (w8.heap[w7.heap.size]? = some (.cells (cv FV FM) 37 (0, 0))) := (hb8.block _ (Array.getElem?_eq_some_iff.1 F7.out).1).trans F7.out
        have B8 : Hid (Below wp.heap.size wp (w8.setRow w7.heap.size (cv CV CM))) := below_setRow (BA.out.trans (hb8.mono BA.out.size)) B7.out.size _
        have C8 : Hid ((w8.setRow w7.heap.size (cv CV CM)).heap[w7.heap.size]? = some (.cells (cv CV CM) 37 (0, 0))) := setRow_heap _ _ _ _ _ _ F8.out
        clear hb8 F7 BA P7 B7
        go_wp2_with (first
          | (refine wl_storeC rfl _ _ rfl w7.heap.size CV CM rfl rfl _ F8.out (cv_size _ _ hFV hFM) hCV hCM _ rfl ?_)
          | (refine wl_build0R (E := CubE) CubOk rfl rfl ?_))
        obtain ⟨wb, hwb⟩ : ∃ wb, wb = w8.setRow w7.heap.size (cv CV CM) := ⟨_, rfl⟩
        rw [← hwb] at B8 C8 ⊢
        obtain ⟨g13, hg13⟩ : ∃ g, g = w7.heap.size := ⟨_, rfl⟩
        rw [← hg13] at C8 ⊢
        have SB : Hid (Sl wb (.slice os ns cs) S) := SP.out.below B8.out
        have DB : Hid (Sl wb (.slice od nd cd) D) := DP.out.below B8.out
        have BB : Hid (Below w.heap.size w wb) := BP.out.trans (B8.out.mono BP.out.size)
        have hsb : (w8.setRow w7.heap.size (cv CV CM)).heap.size = w8.heap.size := by simp [World.setRow]
        rw [← hwb] at hsb
        clear hwb hg13 F8 SP DP BP B8 AP CP NP ZP f10
        have hn1 : ns ≤ 30 := by have h1 := HSL.out; have h2 := HNS.out; omega
        have hn2 : nd ≤ 30 := by have h1 := HDL.out; have h2 := HND.out; omega
        go_loopw [15, 16] (fun v i wr => ∃ (k : Nat) (X : List CubeT), k ≤ ns ∧ i = .int .i64 (k : Int) ∧ Hid (X = allRows (CV, CM) (S.take k) D) ∧ wr.ownsRow wb.heap.size 37 26 v X.length (ccells X) ∧ Below wb.heap.size wb wr) (fun _ i _ => ns - (intOf i).toNat)
        case atStart => exact ⟨0, [], Nat.zero_le _, rfl, rfl, by first | exact own0R wb _ _ | (rw [← hsb]; exact own0R wb _ _) | (simpa [hsb] using own0R wb _ _), (Below.refl _ _).alloc (Nat.le_refl _) _⟩
        case round =>
          obtain ⟨k, X, hk, rfl, HX, hown, hb⟩ := hrel
          obtain ⟨wo, hwo⟩ : ∃ wo : World, wo = wr := ⟨_, rfl⟩
          rw [← hwo] at hown hb ⊢
          have OWO : Hid (wo.ownsRow wb.heap.size 37 26 u15 X.length (ccells X)) := hown
          have HBO : Hid (Below wb.heap.size wb wo) := hb
          clear hwo wr hown hb
          by_cases hlt : k < ns
          · have hlt' : (k : Int) < (ns : Int) := by omega
            obtain ⟨g, off, cur, t, fr, U, N, rfl, hg, hc, hSk, hU, hN⟩ := SB.out.at k hlt
            have hUl := hU.1
            have hNl := hN.1
            have HG : Hid (wb.heap[g]? = some (.cells cur t fr)) := hg
            have HC : Hid (∀ j, j < 26 → cur[off + k * 26 + j]? = (cv U N)[j]?) := hc
            have HSK : Hid (S[k]? = some (U, N)) := hSk
            have HMS : Hid ((U, N) ∈ S) := List.mem_of_getElem? hSk
            obtain ⟨⟨GV, GM⟩, hGM⟩ : ∃ c, c = met (CV, CM) (U, N) := ⟨_, rfl⟩
            have hGl : GV.length = 13 ∧ GM.length = 13 := by have := met_byt (CV, CM) (U, N); rw [← hGM] at this; exact ⟨this.1.1, this.2.1⟩
            have hGV := hGl.1
            have hGMl := hGl.2
            have HGM : Hid ((GV, GM) = met (CV, CM) (U, N)) := hGM
            have D1 : Hid (∀ W, Calls Tryz.prog 38 #[.agg (cv CV CM), .agg (cv U N)] W fun e w' => e = .returned (.tuple #[.agg (cv GV GM), .bool true]) ∧ Below W.heap.size W w') := fun W => by
              have := MS.out _ HMS.out W
              rw [← hGM] at this
              exact this
            clear hg hc hSk hU hN hGM hGl
            go_wp2_with fail
            go_loopw [15, 17] (fun v i wr => ∃ (j : Nat) (Y : List CubeT), j ≤ nd ∧ i = .int .i64 (j : Int) ∧ Hid (Y = X ++ rowC (CV, CM) (U, N) (D.take j)) ∧ wr.ownsRow wb.heap.size 37 26 v Y.length (ccells Y) ∧ Below wb.heap.size wb wr) (fun _ i _ => nd - (intOf i).toNat)
            case atStart => exact ⟨0, X, Nat.zero_le _, rfl, by show X = _; rw [List.take_zero, row_none, List.append_nil], OWO.out, HBO.out⟩
            case round =>
              obtain ⟨j, Y, hj, rfl, HY, hown, hb⟩ := hrel
              have OWN : Hid (wr.ownsRow wb.heap.size 37 26 u15 Y.length (ccells Y)) := hown
              have HBI : Hid (Below wb.heap.size wb wr) := hb
              have HYL : Hid (Y.length ≤ 10000) := by
                show _ ≤ _
                rw [HY.out, HX.out, List.length_append, rows_len, row_len, List.length_take, List.length_take]
                have h1 := HSL.out
                have h2 := HDL.out
                have := Nat.mul_le_mul (show min k S.length ≤ 30 by omega) h2
                omega
              clear hown hb
              by_cases hjl : j < nd
              · have hjl' : (j : Int) < (nd : Int) := by omega
                obtain ⟨g2, off2, cur2, t2, fr2, U2, N2, rfl, hg2, hc2, hDj, hU2, hN2⟩ := DB.out.at j hjl
                have hUl2 := hU2.1
                have hNl2 := hN2.1
                have hg1' : wr.heap[g]? = some (.cells cur t fr) := (HBI.out.block g (Array.getElem?_eq_some_iff.1 HG.out).1).trans HG.out
                have c13 : wr.heap[g13]? = some (.cells (cv CV CM) 37 (0, 0)) := (HBI.out.block _ (Array.getElem?_eq_some_iff.1 C8.out).1).trans C8.out
                have HG2 : Hid (wr.heap[g2]? = some (.cells cur2 t2 fr2)) := (HBI.out.block g2 (Array.getElem?_eq_some_iff.1 hg2).1).trans hg2
                have HC2 : Hid (∀ i, i < 26 → cur2[off2 + j * 26 + i]? = (cv U2 N2)[i]?) := hc2
                have HDJ : Hid (D[j]? = some (U2, N2)) := hDj
                obtain ⟨⟨HV, HM⟩, hHM⟩ : ∃ c, c = met (met (CV, CM) (U, N)) (U2, N2) := ⟨_, rfl⟩
                have hHl : HV.length = 13 ∧ HM.length = 13 := by have := met_byt (met (CV, CM) (U, N)) (U2, N2); rw [← hHM] at this; exact ⟨this.1.1, this.2.1⟩
                have hHV := hHl.1
                have hHMl := hHl.2
                have HHM : Hid ((HV, HM) = met (met (CV, CM) (U, N)) (U2, N2)) := hHM
                have D2 : Hid (∀ W, Calls Tryz.prog 38 #[.agg (cv GV GM), .agg (cv U2 N2)] W fun e w' => e = .returned (.tuple #[.agg (cv HV HM), .bool true]) ∧ Below W.heap.size W w') := fun W => by
                  have := MD.out _ HMS.out _ (List.mem_of_getElem? hDj) W
                  rw [← hHM, ← HGM.out] at this
                  exact this
                clear hg2 hc2 hDj hU2 hN2 hHM hHl
                go_wp2_with fail
                have ne1 := Later.ne wr
                refine region_cut (fun a a' w' => ∃ gq y94 y95 y96 y97 y98 y99 y100 y101 y102, a' = (((((((((((a.put (some 18) (.pointer (some ⟨gq, 0, none⟩))).put (some 19) (.bool true)).put (some 94) y94).put (some 95) y95).put (some 96) y96).put (some 97) y97).put (some 98) y98).put (some 99) y99).put (some 100) y100).put (some 101) y101).put (some 102) y102) ∧ wr.heap.size ≤ gq ∧ w'.heap[gq]? = some (.cells (cv GV GM) 37 (0, 0)) ∧ Below wr.heap.size wr w') ?_ ?_
                · refine region_begin 12 rfl (by kernel_rfl) ?_
                  refine region_reads 0 5 7 rfl (by kernel_rfl) (by kernel_rfl) (by kernel_rfl) (by intro d v c a w h; exact absurd h.1 (by simp)) ⟨⟨wr.drew, (Below.refl _ _).drew⟩, rfl⟩ ?_
                  simp only [List.drop_zero, List.take_succ_cons, List.take_zero]
                  refine qlC rfl _ rfl g13 rfl CV CM c13 hCV hCM ?_
                  simp only [Act.put, List.setIfInBounds_toArray, List.set_cons_succ, List.set_cons_zero]
                  go_big_quiet_step (fail)
                  go_big_quiet_step (fail)
                  go_big_quiet_step (fail)
                  refine qlSl rfl _ rfl g (off + k * 26) rfl cur t fr U N hUl hNl hg1' HC.out ?_
                  simp only [Act.put, List.setIfInBounds_toArray, List.set_cons_succ, List.set_cons_zero]
                  refine wpQuiet_nil ?_
                  refine wpAnyH_all (rs := [5, 9]) (by kernel_rfl) (by decide) ?_
                  intro i hi
                  simp only [List.mem_cons, List.not_mem_nil, or_false] at hi
                  rcases hi with rfl | rfl
                  · refine wpOp_call rfl rfl 38 #[.tmp 95, .tmp 99] (by intro b w; have hf := Tryz.func38; simp [go_sem]) #[.agg (cv CV CM), .agg (cv U N)] rfl (fun v w' => v = .tuple #[.agg (cv GV GM), .bool true] ∧ Below wr.drew.heap.size wr.drew w') ((D1.out _).mono fun e w' h => ⟨_, h.1, rfl, h.2⟩) (some 100) rfl ?_
                    rintro v wz1 ⟨rfl, hz1⟩
                    have hy1 : Below wr.heap.size wr wz1 := (Below.refl wr.heap.size wr).drew.trans (hz1.mono (Below.refl wr.heap.size wr).drew.size)
                    refine ⟨⟨⟨wz1, hy1⟩, rfl⟩, ?_⟩
                    simp only [Act.put, List.setIfInBounds_toArray, List.set_cons_succ, List.set_cons_zero]
                    refine region_reads 6 3 3 rfl (by kernel_rfl) (by kernel_rfl) (by kernel_rfl) (by intro d v c a w h; exact absurd h.1 (by simp)) ⟨⟨wz1, hy1⟩, rfl⟩ ?_
                    simp only [List.drop_succ_cons, List.drop_zero, List.take_succ_cons, List.take_zero]
                    repeat go_big_quiet_step (fail)
                    refine wpQuiet_nil ?_
                    refine wpAnyH_all (rs := [9]) (by kernel_rfl) (by decide) ?_
                    intro i hi
                    obtain rfl := List.mem_singleton.1 hi
                    refine wpOp_allocC rfl rfl rfl (some 18) rfl ?_
                    have hy2 : Below wr.heap.size wr (wz1.alloc (.cells zeroC 37)) := hy1.alloc hy1.size _
                    have hx2 : (wz1.alloc (.cells zeroC 37)).heap[wz1.heap.size]? = some (.cells zeroC 37 (0, 0)) := heap_new _ _ _ rfl
                    refine ⟨⟨⟨_, hy2⟩, rfl⟩, ?_⟩
                    simp only [Act.put, List.setIfInBounds_toArray, List.set_cons_succ, List.set_cons_zero]
                    refine wpAnyH_all (rs := [10]) (by kernel_rfl) (by decide) ?_
                    intro i hi
                    obtain rfl := List.mem_singleton.1 hi
                    have hbl : wr.heap.size ≤ wz1.heap.size := by have := hy1.size; exact this
                    refine wpOp_storeC rfl rfl _ _ rfl (wz1.heap.size) GV GM rfl rfl _ hx2 rfl hGV hGMl none rfl ?_
                    refine ⟨⟨⟨_, below_setRow hy2 hbl _⟩, rfl⟩, ?_⟩
                    refine wpAnyH_all (rs := [11]) (by kernel_rfl) (by decide) ?_
                    intro i hi
                    obtain rfl := List.mem_singleton.1 hi
                    refine wpOp_assign rfl rfl _ rfl (.bool true) rfl (some 19) rfl ?_
                    refine ⟨⟨⟨_, below_setRow hy2 hbl _⟩, rfl⟩, ?_⟩
                    refine wpAnyH_done (by kernel_rfl) ?_ _
                    exact ⟨rfl, wz1.heap.size, _, _, _, _, _, _, _, _, _, rfl, hbl, setRow_heap _ _ _ _ _ _ hx2, below_setRow hy2 hbl _⟩
                  · refine wpOp_allocC rfl rfl rfl (some 18) rfl ?_
                    have hy3 : Below wr.heap.size wr (wr.drew.alloc (.cells zeroC 37)) := (Below.refl wr.heap.size wr).drew.alloc (Below.refl wr.heap.size wr).drew.size _
                    have hx3 : (wr.drew.alloc (.cells zeroC 37)).heap[wr.drew.heap.size]? = some (.cells zeroC 37 (0, 0)) := heap_new _ _ _ rfl
                    refine ⟨⟨⟨_, hy3⟩, rfl⟩, ?_⟩
                    simp only [Act.put, List.setIfInBounds_toArray, List.set_cons_succ, List.set_cons_zero]
                    refine wpAnyH_all (rs := [5]) (by kernel_rfl) (by decide) ?_
                    intro i hi
                    obtain rfl := List.mem_singleton.1 hi
                    refine wpOp_call rfl rfl 38 #[.tmp 95, .tmp 99] (by intro b w; have hf := Tryz.func38; simp [go_sem]) #[.agg (cv CV CM), .agg (cv U N)] rfl (fun v w' => v = .tuple #[.agg (cv GV GM), .bool true] ∧ Below (wr.drew.alloc (.cells zeroC 37)).heap.size (wr.drew.alloc (.cells zeroC 37)) w') ((D1.out _).mono fun e w' h => ⟨_, h.1, rfl, h.2⟩) (some 100) rfl ?_
                    rintro v wz4 ⟨rfl, hz4⟩
                    have hy4 : Below wr.heap.size wr wz4 := hy3.trans (hz4.mono hy3.size)
                    have hx4 : wz4.heap[wr.drew.heap.size]? = some (.cells zeroC 37 (0, 0)) := (hz4.block _ (Array.getElem?_eq_some_iff.1 hx3).1).trans hx3
                    refine ⟨⟨⟨wz4, hy4⟩, rfl⟩, ?_⟩
                    simp only [Act.put, List.setIfInBounds_toArray, List.set_cons_succ, List.set_cons_zero]
                    refine region_reads 6 3 2 rfl (by kernel_rfl) (by kernel_rfl) (by kernel_rfl) (by intro d v c a w h; exact absurd h.1 (by simp)) ⟨⟨wz4, hy4⟩, rfl⟩ ?_
                    simp only [List.drop_succ_cons, List.drop_zero, List.take_succ_cons, List.take_zero]
                    repeat go_big_quiet_step (fail)
                    refine wpQuiet_nil ?_
                    refine wpAnyH_all (rs := [10]) (by kernel_rfl) (by decide) ?_
                    intro i hi
                    obtain rfl := List.mem_singleton.1 hi
                    have hbl : wr.heap.size ≤ wr.drew.heap.size := Nat.le_refl _
                    refine wpOp_storeC rfl rfl _ _ rfl (wr.drew.heap.size) GV GM rfl rfl _ hx4 rfl hGV hGMl none rfl ?_
                    refine ⟨⟨⟨_, below_setRow hy4 hbl _⟩, rfl⟩, ?_⟩
                    refine wpAnyH_all (rs := [11]) (by kernel_rfl) (by decide) ?_
                    intro i hi
                    obtain rfl := List.mem_singleton.1 hi
                    refine wpOp_assign rfl rfl _ rfl (.bool true) rfl (some 19) rfl ?_
                    refine ⟨⟨⟨_, below_setRow hy4 hbl _⟩, rfl⟩, ?_⟩
                    refine wpAnyH_done (by kernel_rfl) ?_ _
                    exact ⟨rfl, wr.drew.heap.size, _, _, _, _, _, _, _, _, _, rfl, hbl, setRow_heap _ _ _ _ _ _ hx4, below_setRow hy4 hbl _⟩
                · rintro a' w' ⟨gq, y94, y95, y96, y97, y98, y99, y100, y101, y102, rfl, hgq, hcq, hbq⟩
                  simp only [Act.put, List.setIfInBounds_toArray, List.set_cons_succ, List.set_cons_zero]
                  have OW2 : Hid (w'.ownsRow wb.heap.size 37 26 u15 Y.length (ccells Y)) := own_below OWN.out hbq
                  have NE2 : Hid (u15.ownBlock ≠ some gq) := own_ne OWN.out hgq
                  have hg2' : w'.heap[g2]? = some (.cells cur2 t2 fr2) := (hbq.block _ (Array.getElem?_eq_some_iff.1 HG2.out).1).trans HG2.out
                  have c18 : w'.heap[gq]? = some (.cells (cv GV GM) 37 (0, 0)) := hcq
                  have B5 : Hid (Below wb.heap.size wb w') := HBI.out.trans (hbq.mono HBI.out.size)
                  have GQ : Hid (wb.heap.size ≤ gq) := Nat.le_trans HBI.out.size hgq
                  clear hg1' c13 HG2 D1 ne1 OWN HBI hcq hbq hgq
                  obtain ⟨w5, hw5⟩ : ∃ w5, w5 = w' := ⟨_, rfl⟩
                  rw [← hw5] at OW2 hg2' c18 B5 ⊢
                  clear hw5
                  go_wp2_with fail
                  have ne1 := Later.ne w5
                  refine wp_region_head 6 4 #[true, true, true, true, true, true, false, false, false, false] (by kernel_rfl) (by kernel_rfl) (by kernel_rfl) (by kernel_rfl) (by kernel_rfl) (by kernel_rfl) rfl ?_
                  simp only [List.take_succ_cons, List.take_zero]
                  refine qlC rfl _ rfl gq rfl GV GM c18 hGV hGMl ?_
                  simp only [Act.put, List.setIfInBounds_toArray, List.set_cons_succ, List.set_cons_zero]
                  go_big_quiet_step (fail)
                  go_big_quiet_step (fail)
                  go_big_quiet_step (fail)
                  refine qlSl rfl _ rfl g2 (off2 + j * 26) rfl cur2 t2 fr2 U2 N2 hUl2 hNl2 hg2' HC2.out ?_
                  simp only [Act.put, List.setIfInBounds_toArray, List.set_cons_succ, List.set_cons_zero]
                  go_big_quiet_want; go_big_quiet_op
                  refine ⟨_, fun u => Calls.later_of (D2.out u.world), ?_⟩
                  go_big_quiet_on
                  refine wpQuiet_nil ?_
                  rintro w' ⟨u, rfl⟩
                  have k2 := later_block c18 _ ⟨u, rfl⟩
                  have OW3 : Hid ((u.world.setRow gq (cv HV HM)).ownsRow wb.heap.size 37 26 u15 Y.length (ccells Y)) := own_setRow_ne (own_below OW2.out u.below) gq NE2.out _
                  have B6 : Hid (Below wb.heap.size wb (u.world.setRow gq (cv HV HM))) := below_setRow (B5.out.trans (u.below.mono B5.out.size)) GQ.out _
                  have C6 : Hid ((u.world.setRow gq (cv HV HM)).heap[gq]? = some (.cells (cv HV HM) 37 (0, 0))) := setRow_heap _ _ _ _ _ _ k2
                  clear ne1 D2 hg2' c18 OW2 B5
                  refine any_fix6 (v := .tuple #[.agg (cv HV HM), .bool true]) (v0 := .agg (cv HV HM)) (v1 := .bool true) (w' := u.world.setRow gq (cv HV HM)) (by kernel_rfl) (by kernel_rfl) (by kernel_rfl) (by kernel_rfl) (by kernel_rfl) (by kernel_rfl) (by kernel_rfl) rfl rfl rfl rfl rfl (run_move _ _ _ _ _ _ rfl rfl)
                    (run_extract _ _ _ _ _ _ _ _ rfl rfl rfl) (run_extract _ _ _ _ _ _ _ _ rfl rfl rfl) (run_extract _ _ _ _ _ _ _ _ rfl rfl rfl) (run_extract _ _ _ _ _ _ _ _ rfl rfl rfl) (run_extract _ _ _ _ _ _ _ _ rfl rfl rfl)
                    (run_storeC _ _ _ _ _ rfl gq _ _ rfl rfl _ k2 (cv_size _ _ hGV hGMl) hHV hHMl) (run_storeC _ _ _ _ _ rfl gq _ _ rfl rfl _ k2 (cv_size _ _ hGV hGMl) hHV hHMl) rfl ?_
                  simp only [Act.put, List.setIfInBounds_toArray, List.set_cons_succ, List.set_cons_zero]
                  obtain ⟨w6, hw6⟩ : ∃ w6, w6 = u.world.setRow gq (cv HV HM) := ⟨_, rfl⟩
                  rw [← hw6] at OW3 B6 C6 ⊢
                  clear hw6 k2
                  go_wp2_with (first
                    | (refine wl_loadC rfl _ rfl gq rfl HV HM C6.out hHV hHMl ?_)
                    | (refine wl_build1 rfl _ rfl HV HM hHV hHMl rfl ?_)
                    | (at_builtin; refine of_stopped ?_))
                  unfold Stopped
                  have OW4 : Hid ((w6.alloc (.cells (cv HV HM) 37)).ownsRow wb.heap.size 37 26 u15 Y.length (ccells Y)) := OW3.out.alloc _
                  have B7 : Hid (Below wb.heap.size wb (w6.alloc (.cells (cv HV HM) 37))) := B6.out.alloc B6.out.size _
                  refine wl_append1 rfl _ _ rfl wb.heap.size u15 Y HV HM hHV hHMl rfl OW4.out w6.heap.size 1 rfl (heap_new _ _ _ rfl) (by have := HYL.out; omega) (by have := B6.out.size; simp; omega) ?_
                  intro v' w9 hown9 hgr9 _
                  have O9 : Hid (w9.ownsRow wb.heap.size 37 26 v' (Y ++ [(HV, HM)]).length (ccells (Y ++ [(HV, HM)]))) := hown9
                  have B9 : Hid (Below wb.heap.size wb w9) := B7.out.grown hgr9 B7.out.size (fun q hq => (OW4.out.lt q hq).1)
                  clear hown9 hgr9
                  simp only [Act.put, List.setIfInBounds_toArray, List.set_cons_succ, List.set_cons_zero]
                  go_wp2_with fail
                  go_roundw
                  case rel =>
                    refine ⟨j + 1, Y ++ [(HV, HM)], by omega, by go_num, ?_, O9.out, B9.out⟩
                    show Y ++ [(HV, HM)] = _
                    rw [row_take HDJ.out, HY.out, HHM.out, List.append_assoc]
                  case measure => simp [intOf]; omega
              · have hjl' : ¬ (j : Int) < (nd : Int) := by omega
                go_wp2_with fail
                go_roundw
                case rel =>
                  refine ⟨k + 1, Y, by omega, by go_num, ?_, OWN.out, HBI.out⟩
                  show Y = _
                  rw [rows_take HSK.out, HY.out, HX.out, show D.take j = D from List.take_of_length_le (by have := HND.out; omega)]
                case measure => simp [intOf]; omega
          · have hlt' : ¬ (k : Int) < (ns : Int) := by omega
            have HXX : Hid (X = cubesT x) := by
              show X = _
              rw [HX.out, HCT.out, show S.take k = S from List.take_of_length_le (by have := HNS.out; omega)]
            go_wp2_with fail
            go_ret
            exact ⟨⟨_, rfl, by rw [← HXX.out]; exact own_base OWO.out BB.out.size⟩, BB.out.trans (HBO.out.mono BB.out.size)⟩
end Go.Proofs.YthddlchkbnmcaaaGreatDoor
namespace Go.Proofs.YthddlchkbnmcaaaGreatDoor
open Go Go.RowKit
set_option maxRecDepth 20000

set_option maxHeartbeats 4000000 in
theorem rcubes_dflt (x : Ent) (hd : x.dflt = true) (w : World) :
    Calls Tryz.prog 19 #[.agg (entV x)] w fun e w' => (∃ v, e = .returned v ∧ w'.ownsRow w.heap.size 37 26 v (cubesT x).length (ccells (cubesT x))) ∧ Below w.heap.size w w' := by
  have hZl := Z_byt.1
  have KN : Hid (((w.alloc (.cells (entV x) 35)).alloc (.cells (cv Z Z) 37)).heap[w.heap.size]? = some (.cells (entV x) 35 (0, 0))) := heap_past _ _ _ _ (heap_new _ _ _ rfl)
  have KZ : Hid (((w.alloc (.cells (entV x) 35)).alloc (.cells (cv Z Z) 37)).heap[w.heap.size + 1]? = some (.cells (cv Z Z) 37 (0, 0))) := heap_new _ _ _ (by simp)
  have B0 : Hid (Below w.heap.size w ((w.alloc (.cells (entV x) 35)).alloc (.cells (cv Z Z) 37))) := ((Below.refl _ _).alloc (Nat.le_refl _) _).alloc (by simp) _
  have HC : Hid (cubesT x = [allC]) := by show _ = _; unfold cubesT; rw [if_pos hd]
  have f0 := (ent_g KN.out).1
  rw [hd] at f0
  go_enter Tryz.func19, Tryz.ntmps19
  go_wp2_with (first
    | (refine wl_storeC rfl _ _ rfl (w.heap.size + 1) Z Z rfl (by rw [← zeroC_eq]; rfl) _ (heap_new _ _ _ (by simp)) rfl hZl hZl _ (setRow_new _ _ _ _ _ (by simp)) ?_)
    | (refine wl_loadC rfl _ rfl (w.heap.size + 1) rfl Z Z KZ.out hZl hZl ?_)
    | (refine wl_build1 rfl _ rfl Z Z hZl hZl rfl ?_))
  go_ret
  refine ⟨⟨_, rfl, ?_⟩, B0.out.alloc B0.out.size _⟩
  rw [HC.out, show allC = (Z, Z) from rfl]
  have := own_base (own_one8 ((w.alloc (.cells (entV x) 35)).alloc (.cells (cv Z Z) 37)) Z Z Z_byt Z_byt) B0.out.size
  simpa using this
/-- The reference's cubes of an entry that has any. -/
theorem rcubes_all (x : Ent) (hx : ent32 x) (hm : manyN x ≠ 0) (w : World) :
    Calls Tryz.prog 19 #[.agg (entV x)] w fun e w' => (∃ v, e = .returned v ∧ w'.ownsRow w.heap.size 37 26 v (cubesT x).length (ccells (cubesT x))) ∧ Below w.heap.size w w' := by
  cases hd : x.dflt with
  | true => exact rcubes_dflt x hd w
  | false =>
    refine rcubes_any x hx hd ?_ w
    have h := cubes_len x
    rw [hd, if_neg (by decide)] at h
    by_cases hc : canB x = true
    · unfold canB at hc
      simp only [Bool.and_eq_true, decide_eq_true_eq] at hc
      exact hc.2
    · rw [if_neg hc] at h
      exact absurd h hm
end Go.Proofs.YthddlchkbnmcaaaGreatDoor
