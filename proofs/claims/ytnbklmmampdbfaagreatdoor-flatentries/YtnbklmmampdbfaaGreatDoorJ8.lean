import Derived.Test.YtnbklmmampdbfaaGreatDoorJ7
import Derived.Test.YtnbklmmampdbfaaGreatDoorJ5
import Derived.Test.YtnbklmmampdbfaaGreatDoorJ6
import Derived.Test.YtnbklmmampdbfaaGreatDoorJ4
import Derived.Test.YtnbklmmampdbfaaGreatDoorJ1
import Derived.Shelf.Strconv.Clone
namespace Go.Proofs.YtnbklmmampdbfaaGreatDoor
open Go Go.RowKit
set_option maxRecDepth 20000

theorem row_len (b s : CubeT) (D : List CubeT) : (rowC b s D).length = D.length := by simp [rowC]
theorem rows_len (b : CubeT) (D : List CubeT) : ∀ S : List CubeT, (allRows b S D).length = S.length * D.length
  | [] => by simp [allRows]
  | s :: S => by
    have ih := rows_len b D S
    unfold allRows at ih ⊢
    rw [List.flatMap_cons, List.length_append, ih, row_len, List.length_cons, Nat.add_mul]
    omega
theorem portP_byts (f l h : Int) : Byts (portP f l h) := by
  unfold portP
  split
  · exact byts_portC _ _
  · intro c hc; simp at hc
set_option maxHeartbeats 16000000 in
set_option maxRecDepth 100000 in
theorem rcubes_any (x : Ent) (hx : ent32 x) (hd : x.dflt = false) (hp : -1 ≤ x.proto ∧ x.proto ≤ 255) (w : World) :
    Calls Tryz.prog 19 #[.agg (entV x)] w fun e w' => (∃ v, e = .returned v ∧ w'.ownsRow w.heap.size 37 26 v (cubesT x).length (ccells (cubesT x))) ∧ Below w.heap.size w w' := by
  have hZl := Z_byt.1
  have HCT : Hid (cubesT x = allRows (baseC x) (portP 2 x.slow x.shigh) (portP 3 x.dlow x.dhigh)) := cubes_rows hd hp
  obtain ⟨k0, hk0⟩ : ∃ k, k = clip8 x.srcBits := ⟨_, rfl⟩
  obtain ⟨k1, hk1⟩ : ∃ k, k = clip8 x.dstBits := ⟨_, rfl⟩
  have CL0 : Hid (∀ W, Calls Tryz.prog 35 #[.int .i64 x.srcBits] W fun e w' => e = .returned (.int .i64 (k0 : Int)) ∧ Below W.heap.size W w') := fun W => by
    rw [hk0]; exact (rclip_any _ W).mono fun e w' h => ⟨h.1, by rw [h.2]; exact Below.refl _ _⟩
  have CL1 : Hid (∀ W, Calls Tryz.prog 35 #[.int .i64 x.dstBits] W fun e w' => e = .returned (.int .i64 (k1 : Int)) ∧ Below W.heap.size W w') := fun W => by
    rw [hk1]; exact (rclip_any _ W).mono fun e w' h => ⟨h.1, by rw [h.2]; exact Below.refl _ _⟩
  obtain ⟨⟨AV, AM⟩, hA⟩ : ∃ c, c = prefB8 0 x.src x.srcBits := ⟨_, rfl⟩
  obtain ⟨⟨BV, BM⟩, hB⟩ : ∃ c, c = prefB8 1 x.dst x.dstBits := ⟨_, rfl⟩
  have PX0 : Hid (∀ W, Calls Tryz.prog 34 #[.int .i64 0, .int .u32 x.src, .int .i64 (k0 : Int)] W fun e w' => e = .returned (.tuple #[.agg (cv AV AM), .int .i64 0]) ∧ Below W.heap.size W w') := fun W => by
    have := rprefix_ok 0 x.src.toNat (clip8 x.srcBits) W (.inl rfl) (by have := hx.1; omega) (by unfold clip8; omega)
    rw [Int.toNat_of_nonneg hx.1.1, ← hk0] at this
    rw [show AV = pxV 0 x.src.toNat k0 by rw [hk0]; exact congrArg Prod.fst hA, show AM = pxM 0 k0 by rw [hk0]; exact congrArg Prod.snd hA]
    exact this
  have PX1 : Hid (∀ W, Calls Tryz.prog 34 #[.int .i64 1, .int .u32 x.dst, .int .i64 (k1 : Int)] W fun e w' => e = .returned (.tuple #[.agg (cv BV BM), .int .i64 0]) ∧ Below W.heap.size W w') := fun W => by
    have := rprefix_ok 1 x.dst.toNat (clip8 x.dstBits) W (.inr rfl) (by have := hx.2; omega) (by unfold clip8; omega)
    rw [Int.toNat_of_nonneg hx.2.1, ← hk1] at this
    rw [show BV = pxV 1 x.dst.toNat k1 by rw [hk1]; exact congrArg Prod.fst hB, show BM = pxM 1 k1 by rw [hk1]; exact congrArg Prod.snd hB]
    exact this
  have hAV : AV.length = 13 := by have := (prefB8_byt 0 x.src x.srcBits).1.1; rw [← hA] at this; exact this
  have hAM : AM.length = 13 := by have := (prefB8_byt 0 x.src x.srcBits).2.1; rw [← hA] at this; exact this
  have hBV : BV.length = 13 := by have := (prefB8_byt 1 x.dst x.dstBits).1.1; rw [← hB] at this; exact this
  have hBM : BM.length = 13 := by have := (prefB8_byt 1 x.dst x.dstBits).2.1; rw [← hB] at this; exact this
  obtain ⟨S, hS⟩ : ∃ S, S = portP 2 x.slow x.shigh := ⟨_, rfl⟩
  obtain ⟨D, hD⟩ : ∃ D, D = portP 3 x.dlow x.dhigh := ⟨_, rfl⟩
  have PS : Hid (∀ W, Calls Tryz.prog 36 #[.int .i64 2, .int .i64 x.slow, .int .i64 x.shigh] W fun e w' => ∃ u, e = .returned (.tuple #[u, .int .i64 (portE 2 x.slow x.shigh)]) ∧ Sl w' u S ∧ Below W.heap.size W w') := fun W => by rw [hS]; exact rports_any 2 x.slow x.shigh W
  have PD : Hid (∀ W, Calls Tryz.prog 36 #[.int .i64 3, .int .i64 x.dlow, .int .i64 x.dhigh] W fun e w' => ∃ u, e = .returned (.tuple #[u, .int .i64 (portE 3 x.dlow x.dhigh)]) ∧ Sl w' u D ∧ Below W.heap.size W w') := fun W => by rw [hD]; exact rports_any 3 x.dlow x.dhigh W
  obtain ⟨⟨PV, PM⟩, hPP⟩ : ∃ c, c = protB8 x.proto := ⟨_, rfl⟩
  have hPV : PV.length = 13 := by have := (protB8_byt x.proto).1.1; rw [← hPP] at this; exact this
  have hPM : PM.length = 13 := by have := (protB8_byt x.proto).2.1; rw [← hPP] at this; exact this
  have PE : Hid (x.proto = -1 → PV = Z) := fun h => by have := congrArg Prod.fst hPP; unfold protB8 at this; rw [if_pos h] at this; exact this
  have PF : Hid (x.proto = -1 → PM = Z) := fun h => by have := congrArg Prod.snd hPP; unfold protB8 at this; rw [if_pos h] at this; exact this
  have PR : Hid (x.proto ≠ -1 → ∀ W, Calls Tryz.prog 37 #[.int .i64 x.proto] W fun e w' => e = .returned (.tuple #[.agg (cv PV PM), .int .i64 0]) ∧ Below W.heap.size W w') := fun h W => by
    have := rproto_ok x.proto.toNat W (by omega)
    rw [Int.toNat_of_nonneg (by omega)] at this
    have e := hPP
    unfold protB8 at e
    rw [if_neg h] at e
    rw [show PV = pxV 4 x.proto.toNat 8 from congrArg Prod.fst e, show PM = pxM 4 8 from congrArg Prod.snd e]
    exact this
  obtain ⟨⟨FV, FM⟩, hF⟩ : ∃ c, c = base1 x := ⟨_, rfl⟩
  obtain ⟨⟨CV, CM⟩, hC⟩ : ∃ c, c = baseC x := ⟨_, rfl⟩
  have hFV : FV.length = 13 := by have := (met_byt (prefB8 0 x.src x.srcBits) (prefB8 1 x.dst x.dstBits)).1.1; rw [show met (prefB8 0 x.src x.srcBits) (prefB8 1 x.dst x.dstBits) = (FV, FM) from hF.symm] at this; exact this
  have hFM : FM.length = 13 := by have := (met_byt (prefB8 0 x.src x.srcBits) (prefB8 1 x.dst x.dstBits)).2.1; rw [show met (prefB8 0 x.src x.srcBits) (prefB8 1 x.dst x.dstBits) = (FV, FM) from hF.symm] at this; exact this
  have hCB : Byt CV ∧ Byt CM := by have := met_byt (base1 x) (protB8 x.proto); rw [show met (base1 x) (protB8 x.proto) = (CV, CM) from hC.symm] at this; exact this
  have hCV := hCB.1.1
  have hCM := hCB.2.1
  have M1 : Hid (∀ W, Calls Tryz.prog 38 #[.agg (cv AV AM), .agg (cv BV BM)] W fun e w' => e = .returned (.tuple #[.agg (cv FV FM), .bool true]) ∧ Below W.heap.size W w') := fun W => by
    have := rmet_any (fun i a b => by simp only [decide_eq_true_eq] at a b; omega) (sup_pc0 x.src x.srcBits) (sup_pc1 x.dst x.dstBits) (prefB8_byt _ _ _) (prefB8_byt _ _ _) W
    rw [← hA, ← hB, show met (AV, AM) (BV, BM) = (FV, FM) by rw [hA, hB]; exact hF.symm] at this
    exact this
  have M2 : Hid (∀ W, Calls Tryz.prog 38 #[.agg (cv FV FM), .agg (cv PV PM)] W fun e w' => e = .returned (.tuple #[.agg (cv CV CM), .bool true]) ∧ Below W.heap.size W w') := fun W => by
    have := rmet_any (c := base1 x) (d := protB8 x.proto) (fun i a b => by simp only [Bool.or_eq_true, decide_eq_true_eq] at a b; omega) (sup_met (sup_pc0 x.src x.srcBits) (sup_pc1 x.dst x.dstBits)) (sup_prc x.proto) (met_byt _ _) (protB8_byt _) W
    rw [← hF, ← hPP, show met (FV, FM) (PV, PM) = (CV, CM) by rw [hF, hPP]; exact hC.symm] at this
    exact this
  have hb : supB f014 (CV, CM) := by rw [hC]; exact base_sup x _ (by rw [base_is hp]; exact List.mem_singleton.2 rfl)
  have MS : Hid (∀ s ∈ S, ∀ W, Calls Tryz.prog 38 #[.agg (cv CV CM), .agg (cv s.1 s.2)] W fun e w' => e = .returned (.tuple #[.agg (cv (met (CV, CM) s).1 (met (CV, CM) s).2), .bool true]) ∧ Below W.heap.size W w') := fun s hs W => by
    rw [hS] at hs
    exact rmet_any (c := (CV, CM)) base_two hb (sup_p2 x s hs) hCB (by obtain ⟨p, q⟩ := portP_byts 2 x.slow x.shigh s hs; exact ⟨p, q⟩) W
  have MD : Hid (∀ s ∈ S, ∀ d ∈ D, ∀ W, Calls Tryz.prog 38 #[.agg (cv (met (CV, CM) s).1 (met (CV, CM) s).2), .agg (cv d.1 d.2)] W fun e w' => e = .returned (.tuple #[.agg (cv (met (met (CV, CM) s) d).1 (met (met (CV, CM) s) d).2), .bool true]) ∧ Below W.heap.size W w') := fun s hs d hd W => by
    rw [hS] at hs
    rw [hD] at hd
    exact rmet_any base_three (sup_met hb (sup_p2 x s hs)) (sup_p3 x d hd) (met_byt _ _) (by obtain ⟨p, q⟩ := portP_byts 3 x.dlow x.dhigh d hd; exact ⟨p, q⟩) W
  rw [← hS, ← hD, ← hC] at HCT
  have HSL : Hid (S.length ≤ 30) := by rw [hS]; exact portP_few 2 _ _
  have HDL : Hid (D.length ≤ 30) := by rw [hD]; exact portP_few 3 _ _
  clear hS hD hPP hF hC hCB hb hA hB
  have KN : Hid (((w.alloc (.cells (entV x) 35)).alloc (.cells (cv Z Z) 37)).heap[w.heap.size]? = some (.cells (entV x) 35 (0, 0))) := heap_past _ _ _ _ (heap_new _ _ _ rfl)
  have KZ : Hid (((w.alloc (.cells (entV x) 35)).alloc (.cells (cv Z Z) 37)).heap[w.heap.size + 1]? = some (.cells (cv Z Z) 37 (0, 0))) := heap_new _ _ _ (by simp)
  have B0 : Hid (Below w.heap.size w ((w.alloc (.cells (entV x) 35)).alloc (.cells (cv Z Z) 37))) := ((Below.refl _ _).alloc (Nat.le_refl _) _).alloc (by simp) _
  have f0 := (ent_g KN.out).1
  rw [hd] at f0
  clear hk0 hk1
  go_enter Tryz.func19, Tryz.ntmps19
  go_wp2_with (refine wl_storeC rfl _ _ rfl (w.heap.size + 1) Z Z rfl (by rw [← zeroC_eq]; rfl) _ (heap_new _ _ _ (by simp)) rfl hZl hZl _ (setRow_new _ _ _ _ _ (by simp)) ?_)
  obtain ⟨w1, hw1⟩ : ∃ w1, w1 = (w.alloc (.cells (entV x) 35)).alloc (.cells (cv Z Z) 37) := ⟨_, rfl⟩
  rw [← hw1] at KN KZ B0 f0 ⊢
  clear hw1 f0
  have l2 : ∀ u : Later w1, u.world.cell? ⟨w.heap.size, 2, none⟩ = some (.int .u32 x.src) := later_cell7 KN.out rfl
  have l3 : ∀ u : Later w1, u.world.cell? ⟨w.heap.size, 3, none⟩ = some (.int .i64 x.srcBits) := later_cell7 KN.out rfl
  have ne1 := Later.ne w1
  refine region_cut (fun a a' w' => ∃ gq y25 y26 y27 y28 y29 y30 y31 y32 y33, a' = (((((((((((a.put (some 4) (.pointer (some ⟨gq, 0, none⟩))).put (some 5) (.int .i64 0)).put (some 25) y25).put (some 26) y26).put (some 27) y27).put (some 28) y28).put (some 29) y29).put (some 30) y30).put (some 31) y31).put (some 32) y32).put (some 33) y33) ∧ w1.heap.size ≤ gq ∧ w'.heap[gq]? = some (.cells (cv AV AM) 37 (0, 0)) ∧ Below w1.heap.size w1 w') ?_ ?_
  · refine region_begin 12 rfl (by kernel_rfl) ?_
    refine region_reads 0 4 8 rfl (by kernel_rfl) (by kernel_rfl) (by kernel_rfl) (by intro d v c a w h; exact absurd h.1 (by simp)) ⟨⟨w1.drew, (Below.refl _ _).drew⟩, rfl⟩ ?_
    simp only [List.drop_zero, List.take_succ_cons, List.take_zero]
    repeat go_big_quiet_step (fail)
    refine wpQuiet_nil ?_
    refine wpAnyH_all (rs := [4, 9]) (by kernel_rfl) (by decide) ?_
    intro i hi
    simp only [List.mem_cons, List.not_mem_nil, or_false] at hi
    rcases hi with rfl | rfl
    · refine wpOp_call rfl rfl 35 #[.tmp 29] (by intro b w; have hf := Tryz.func35; simp [go_sem]) #[.int .i64 x.srcBits] rfl (fun v w' => v = .int .i64 (k0 : Int) ∧ Below w1.drew.heap.size w1.drew w') ((CL0.out _).mono fun e w' h => ⟨_, h.1, rfl, h.2⟩) (some 30) rfl ?_
      rintro v wz1 ⟨rfl, hz1⟩
      have hy1 : Below w1.heap.size w1 wz1 := (Below.refl w1.heap.size w1).drew.trans (hz1.mono (Below.refl w1.heap.size w1).drew.size)
      refine ⟨⟨⟨wz1, hy1⟩, rfl⟩, ?_⟩
      simp only [Act.put, List.setIfInBounds_toArray, List.set_cons_succ, List.set_cons_zero]
      refine wpAnyH_all (rs := [5, 9]) (by kernel_rfl) (by decide) ?_
      intro i hi
      simp only [List.mem_cons, List.not_mem_nil, or_false] at hi
      rcases hi with rfl | rfl
      · refine wpOp_call rfl rfl 34 #[.const (.int .i64 0), .tmp 27, .tmp 30] (by intro b w; have hf := Tryz.func34; simp [go_sem]) #[.int .i64 0, .int .u32 x.src, .int .i64 (k0 : Int)] rfl (fun v w' => v = .tuple #[.agg (cv AV AM), .int .i64 0] ∧ Below wz1.heap.size wz1 w') ((PX0.out _).mono fun e w' h => ⟨_, h.1, rfl, h.2⟩) (some 31) rfl ?_
        rintro v wz2 ⟨rfl, hz2⟩
        have hy2 : Below w1.heap.size w1 wz2 := hy1.trans (hz2.mono hy1.size)
        refine ⟨⟨⟨wz2, hy2⟩, rfl⟩, ?_⟩
        simp only [Act.put, List.setIfInBounds_toArray, List.set_cons_succ, List.set_cons_zero]
        refine region_reads 6 3 3 rfl (by kernel_rfl) (by kernel_rfl) (by kernel_rfl) (by intro d v c a w h; exact absurd h.1 (by simp)) ⟨⟨wz2, hy2⟩, rfl⟩ ?_
        simp only [List.drop_succ_cons, List.drop_zero, List.take_succ_cons, List.take_zero]
        repeat go_big_quiet_step (fail)
        refine wpQuiet_nil ?_
        refine wpAnyH_all (rs := [9]) (by kernel_rfl) (by decide) ?_
        intro i hi
        obtain rfl := List.mem_singleton.1 hi
        refine wpOp_allocC rfl rfl rfl (some 4) rfl ?_
        have hy3 : Below w1.heap.size w1 (wz2.alloc (.cells zeroC 37)) := hy2.alloc hy2.size _
        have hx3 : (wz2.alloc (.cells zeroC 37)).heap[wz2.heap.size]? = some (.cells zeroC 37 (0, 0)) := heap_new _ _ _ rfl
        refine ⟨⟨⟨_, hy3⟩, rfl⟩, ?_⟩
        simp only [Act.put, List.setIfInBounds_toArray, List.set_cons_succ, List.set_cons_zero]
        refine wpAnyH_all (rs := [10]) (by kernel_rfl) (by decide) ?_
        intro i hi
        obtain rfl := List.mem_singleton.1 hi
        have hbl : w1.heap.size ≤ wz2.heap.size := by have := hy2.size; exact this
        refine wpOp_storeC rfl rfl _ _ rfl (wz2.heap.size) AV AM rfl rfl _ hx3 rfl hAV hAM none rfl ?_
        refine ⟨⟨⟨_, below_setRow hy3 hbl _⟩, rfl⟩, ?_⟩
        refine wpAnyH_all (rs := [11]) (by kernel_rfl) (by decide) ?_
        intro i hi
        obtain rfl := List.mem_singleton.1 hi
        refine wpOp_assign rfl rfl _ rfl (.int .i64 0) rfl (some 5) rfl ?_
        refine ⟨⟨⟨_, below_setRow hy3 hbl _⟩, rfl⟩, ?_⟩
        refine wpAnyH_done (by kernel_rfl) ?_ _
        exact ⟨rfl, wz2.heap.size, _, _, _, _, _, _, _, _, _, rfl, hbl, setRow_heap _ _ _ _ _ _ hx3, below_setRow hy3 hbl _⟩
      · refine wpOp_allocC rfl rfl rfl (some 4) rfl ?_
        have hy4 : Below w1.heap.size w1 (wz1.alloc (.cells zeroC 37)) := hy1.alloc hy1.size _
        have hx4 : (wz1.alloc (.cells zeroC 37)).heap[wz1.heap.size]? = some (.cells zeroC 37 (0, 0)) := heap_new _ _ _ rfl
        refine ⟨⟨⟨_, hy4⟩, rfl⟩, ?_⟩
        simp only [Act.put, List.setIfInBounds_toArray, List.set_cons_succ, List.set_cons_zero]
        refine wpAnyH_all (rs := [5]) (by kernel_rfl) (by decide) ?_
        intro i hi
        obtain rfl := List.mem_singleton.1 hi
        refine wpOp_call rfl rfl 34 #[.const (.int .i64 0), .tmp 27, .tmp 30] (by intro b w; have hf := Tryz.func34; simp [go_sem]) #[.int .i64 0, .int .u32 x.src, .int .i64 (k0 : Int)] rfl (fun v w' => v = .tuple #[.agg (cv AV AM), .int .i64 0] ∧ Below (wz1.alloc (.cells zeroC 37)).heap.size (wz1.alloc (.cells zeroC 37)) w') ((PX0.out _).mono fun e w' h => ⟨_, h.1, rfl, h.2⟩) (some 31) rfl ?_
        rintro v wz5 ⟨rfl, hz5⟩
        have hy5 : Below w1.heap.size w1 wz5 := hy4.trans (hz5.mono hy4.size)
        have hx5 : wz5.heap[wz1.heap.size]? = some (.cells zeroC 37 (0, 0)) := (hz5.block _ (Array.getElem?_eq_some_iff.1 hx4).1).trans hx4
        refine ⟨⟨⟨wz5, hy5⟩, rfl⟩, ?_⟩
        simp only [Act.put, List.setIfInBounds_toArray, List.set_cons_succ, List.set_cons_zero]
        refine region_reads 6 3 2 rfl (by kernel_rfl) (by kernel_rfl) (by kernel_rfl) (by intro d v c a w h; exact absurd h.1 (by simp)) ⟨⟨wz5, hy5⟩, rfl⟩ ?_
        simp only [List.drop_succ_cons, List.drop_zero, List.take_succ_cons, List.take_zero]
        repeat go_big_quiet_step (fail)
        refine wpQuiet_nil ?_
        refine wpAnyH_all (rs := [10]) (by kernel_rfl) (by decide) ?_
        intro i hi
        obtain rfl := List.mem_singleton.1 hi
        have hbl : w1.heap.size ≤ wz1.heap.size := by have := hy1.size; exact this
        refine wpOp_storeC rfl rfl _ _ rfl (wz1.heap.size) AV AM rfl rfl _ hx5 rfl hAV hAM none rfl ?_
        refine ⟨⟨⟨_, below_setRow hy5 hbl _⟩, rfl⟩, ?_⟩
        refine wpAnyH_all (rs := [11]) (by kernel_rfl) (by decide) ?_
        intro i hi
        obtain rfl := List.mem_singleton.1 hi
        refine wpOp_assign rfl rfl _ rfl (.int .i64 0) rfl (some 5) rfl ?_
        refine ⟨⟨⟨_, below_setRow hy5 hbl _⟩, rfl⟩, ?_⟩
        refine wpAnyH_done (by kernel_rfl) ?_ _
        exact ⟨rfl, wz1.heap.size, _, _, _, _, _, _, _, _, _, rfl, hbl, setRow_heap _ _ _ _ _ _ hx5, below_setRow hy5 hbl _⟩
    · refine wpOp_allocC rfl rfl rfl (some 4) rfl ?_
      have hy6 : Below w1.heap.size w1 (w1.drew.alloc (.cells zeroC 37)) := (Below.refl w1.heap.size w1).drew.alloc (Below.refl w1.heap.size w1).drew.size _
      have hx6 : (w1.drew.alloc (.cells zeroC 37)).heap[w1.drew.heap.size]? = some (.cells zeroC 37 (0, 0)) := heap_new _ _ _ rfl
      refine ⟨⟨⟨_, hy6⟩, rfl⟩, ?_⟩
      simp only [Act.put, List.setIfInBounds_toArray, List.set_cons_succ, List.set_cons_zero]
      refine wpAnyH_all (rs := [4]) (by kernel_rfl) (by decide) ?_
      intro i hi
      obtain rfl := List.mem_singleton.1 hi
      refine wpOp_call rfl rfl 35 #[.tmp 29] (by intro b w; have hf := Tryz.func35; simp [go_sem]) #[.int .i64 x.srcBits] rfl (fun v w' => v = .int .i64 (k0 : Int) ∧ Below (w1.drew.alloc (.cells zeroC 37)).heap.size (w1.drew.alloc (.cells zeroC 37)) w') ((CL0.out _).mono fun e w' h => ⟨_, h.1, rfl, h.2⟩) (some 30) rfl ?_
      rintro v wz7 ⟨rfl, hz7⟩
      have hy7 : Below w1.heap.size w1 wz7 := hy6.trans (hz7.mono hy6.size)
      have hx7 : wz7.heap[w1.drew.heap.size]? = some (.cells zeroC 37 (0, 0)) := (hz7.block _ (Array.getElem?_eq_some_iff.1 hx6).1).trans hx6
      refine ⟨⟨⟨wz7, hy7⟩, rfl⟩, ?_⟩
      simp only [Act.put, List.setIfInBounds_toArray, List.set_cons_succ, List.set_cons_zero]
      refine wpAnyH_all (rs := [5]) (by kernel_rfl) (by decide) ?_
      intro i hi
      obtain rfl := List.mem_singleton.1 hi
      refine wpOp_call rfl rfl 34 #[.const (.int .i64 0), .tmp 27, .tmp 30] (by intro b w; have hf := Tryz.func34; simp [go_sem]) #[.int .i64 0, .int .u32 x.src, .int .i64 (k0 : Int)] rfl (fun v w' => v = .tuple #[.agg (cv AV AM), .int .i64 0] ∧ Below wz7.heap.size wz7 w') ((PX0.out _).mono fun e w' h => ⟨_, h.1, rfl, h.2⟩) (some 31) rfl ?_
      rintro v wz8 ⟨rfl, hz8⟩
      have hy8 : Below w1.heap.size w1 wz8 := hy7.trans (hz8.mono hy7.size)
      have hx8 : wz8.heap[w1.drew.heap.size]? = some (.cells zeroC 37 (0, 0)) := (hz8.block _ (Array.getElem?_eq_some_iff.1 hx7).1).trans hx7
      refine ⟨⟨⟨wz8, hy8⟩, rfl⟩, ?_⟩
      simp only [Act.put, List.setIfInBounds_toArray, List.set_cons_succ, List.set_cons_zero]
      refine region_reads 6 3 2 rfl (by kernel_rfl) (by kernel_rfl) (by kernel_rfl) (by intro d v c a w h; exact absurd h.1 (by simp)) ⟨⟨wz8, hy8⟩, rfl⟩ ?_
      simp only [List.drop_succ_cons, List.drop_zero, List.take_succ_cons, List.take_zero]
      repeat go_big_quiet_step (fail)
      refine wpQuiet_nil ?_
      refine wpAnyH_all (rs := [10]) (by kernel_rfl) (by decide) ?_
      intro i hi
      obtain rfl := List.mem_singleton.1 hi
      have hbl : w1.heap.size ≤ w1.drew.heap.size := Nat.le_refl _
      refine wpOp_storeC rfl rfl _ _ rfl (w1.drew.heap.size) AV AM rfl rfl _ hx8 rfl hAV hAM none rfl ?_
      refine ⟨⟨⟨_, below_setRow hy8 hbl _⟩, rfl⟩, ?_⟩
      refine wpAnyH_all (rs := [11]) (by kernel_rfl) (by decide) ?_
      intro i hi
      obtain rfl := List.mem_singleton.1 hi
      refine wpOp_assign rfl rfl _ rfl (.int .i64 0) rfl (some 5) rfl ?_
      refine ⟨⟨⟨_, below_setRow hy8 hbl _⟩, rfl⟩, ?_⟩
      refine wpAnyH_done (by kernel_rfl) ?_ _
      exact ⟨rfl, w1.drew.heap.size, _, _, _, _, _, _, _, _, _, rfl, hbl, setRow_heap _ _ _ _ _ _ hx8, below_setRow hy8 hbl _⟩
  · rintro a' w' ⟨gq, y25, y26, y27, y28, y29, y30, y31, y32, y33, rfl, hgq, hcq, hbq⟩
    simp only [Act.put, List.setIfInBounds_toArray, List.set_cons_succ, List.set_cons_zero]
    have N2 : Hid (w'.heap[w.heap.size]? = some (.cells (entV x) 35 (0, 0))) := (hbq.block _ (Array.getElem?_eq_some_iff.1 KN.out).1).trans KN.out
    have Z2 : Hid (w'.heap[w.heap.size + 1]? = some (.cells (cv Z Z) 37 (0, 0))) := (hbq.block _ (Array.getElem?_eq_some_iff.1 KZ.out).1).trans KZ.out
    have A2 : Hid (w'.heap[gq]? = some (.cells (cv AV AM) 37 (0, 0))) := hcq
    have B2 : Hid (Below w.heap.size w w') := B0.out.trans (hbq.mono B0.out.size)
    have G4 : Hid (w.heap.size ≤ gq) := Nat.le_trans B0.out.size hgq
    clear l2 l3 ne1 hcq hbq hgq KN KZ B0 CL0 PX0
    obtain ⟨w2, hw2⟩ : ∃ w2, w2 = w' := ⟨_, rfl⟩
    rw [← hw2] at N2 Z2 A2 B2 ⊢
    obtain ⟨g4, hg4⟩ : ∃ g, g = gq := ⟨_, rfl⟩
    rw [← hg4] at A2 G4 ⊢
    clear hw2 hg4
    go_wp2_with fail
    have l4 : ∀ u : Later w2, u.world.cell? ⟨w.heap.size, 4, none⟩ = some (.int .u32 x.dst) := later_cell7 N2.out rfl
    have l5 : ∀ u : Later w2, u.world.cell? ⟨w.heap.size, 5, none⟩ = some (.int .i64 x.dstBits) := later_cell7 N2.out rfl
    have ne1 := Later.ne w2
    refine region_cut (fun a a' w' => ∃ gq y34 y35 y36 y37 y38 y39 y40 y41 y42, a' = (((((((((((a.put (some 6) (.pointer (some ⟨gq, 0, none⟩))).put (some 7) (.int .i64 0)).put (some 34) y34).put (some 35) y35).put (some 36) y36).put (some 37) y37).put (some 38) y38).put (some 39) y39).put (some 40) y40).put (some 41) y41).put (some 42) y42) ∧ w2.heap.size ≤ gq ∧ w'.heap[gq]? = some (.cells (cv BV BM) 37 (0, 0)) ∧ Below w2.heap.size w2 w') ?_ ?_
    · refine region_begin 12 rfl (by kernel_rfl) ?_
      refine region_reads 0 4 8 rfl (by kernel_rfl) (by kernel_rfl) (by kernel_rfl) (by intro d v c a w h; exact absurd h.1 (by simp)) ⟨⟨w2.drew, (Below.refl _ _).drew⟩, rfl⟩ ?_
      simp only [List.drop_zero, List.take_succ_cons, List.take_zero]
      repeat go_big_quiet_step (fail)
      refine wpQuiet_nil ?_
      refine wpAnyH_all (rs := [4, 9]) (by kernel_rfl) (by decide) ?_
      intro i hi
      simp only [List.mem_cons, List.not_mem_nil, or_false] at hi
      rcases hi with rfl | rfl
      · refine wpOp_call rfl rfl 35 #[.tmp 38] (by intro b w; have hf := Tryz.func35; simp [go_sem]) #[.int .i64 x.dstBits] rfl (fun v w' => v = .int .i64 (k1 : Int) ∧ Below w2.drew.heap.size w2.drew w') ((CL1.out _).mono fun e w' h => ⟨_, h.1, rfl, h.2⟩) (some 39) rfl ?_
        rintro v wz1 ⟨rfl, hz1⟩
        have hy1 : Below w2.heap.size w2 wz1 := (Below.refl w2.heap.size w2).drew.trans (hz1.mono (Below.refl w2.heap.size w2).drew.size)
        refine ⟨⟨⟨wz1, hy1⟩, rfl⟩, ?_⟩
        simp only [Act.put, List.setIfInBounds_toArray, List.set_cons_succ, List.set_cons_zero]
        refine wpAnyH_all (rs := [5, 9]) (by kernel_rfl) (by decide) ?_
        intro i hi
        simp only [List.mem_cons, List.not_mem_nil, or_false] at hi
        rcases hi with rfl | rfl
        · refine wpOp_call rfl rfl 34 #[.const (.int .i64 1), .tmp 36, .tmp 39] (by intro b w; have hf := Tryz.func34; simp [go_sem]) #[.int .i64 1, .int .u32 x.dst, .int .i64 (k1 : Int)] rfl (fun v w' => v = .tuple #[.agg (cv BV BM), .int .i64 0] ∧ Below wz1.heap.size wz1 w') ((PX1.out _).mono fun e w' h => ⟨_, h.1, rfl, h.2⟩) (some 40) rfl ?_
          rintro v wz2 ⟨rfl, hz2⟩
          have hy2 : Below w2.heap.size w2 wz2 := hy1.trans (hz2.mono hy1.size)
          refine ⟨⟨⟨wz2, hy2⟩, rfl⟩, ?_⟩
          simp only [Act.put, List.setIfInBounds_toArray, List.set_cons_succ, List.set_cons_zero]
          refine region_reads 6 3 3 rfl (by kernel_rfl) (by kernel_rfl) (by kernel_rfl) (by intro d v c a w h; exact absurd h.1 (by simp)) ⟨⟨wz2, hy2⟩, rfl⟩ ?_
          simp only [List.drop_succ_cons, List.drop_zero, List.take_succ_cons, List.take_zero]
          repeat go_big_quiet_step (fail)
          refine wpQuiet_nil ?_
          refine wpAnyH_all (rs := [9]) (by kernel_rfl) (by decide) ?_
          intro i hi
          obtain rfl := List.mem_singleton.1 hi
          refine wpOp_allocC rfl rfl rfl (some 6) rfl ?_
          have hy3 : Below w2.heap.size w2 (wz2.alloc (.cells zeroC 37)) := hy2.alloc hy2.size _
          have hx3 : (wz2.alloc (.cells zeroC 37)).heap[wz2.heap.size]? = some (.cells zeroC 37 (0, 0)) := heap_new _ _ _ rfl
          refine ⟨⟨⟨_, hy3⟩, rfl⟩, ?_⟩
          simp only [Act.put, List.setIfInBounds_toArray, List.set_cons_succ, List.set_cons_zero]
          refine wpAnyH_all (rs := [10]) (by kernel_rfl) (by decide) ?_
          intro i hi
          obtain rfl := List.mem_singleton.1 hi
          have hbl : w2.heap.size ≤ wz2.heap.size := by have := hy2.size; exact this
          refine wpOp_storeC rfl rfl _ _ rfl (wz2.heap.size) BV BM rfl rfl _ hx3 rfl hBV hBM none rfl ?_
          refine ⟨⟨⟨_, below_setRow hy3 hbl _⟩, rfl⟩, ?_⟩
          refine wpAnyH_all (rs := [11]) (by kernel_rfl) (by decide) ?_
          intro i hi
          obtain rfl := List.mem_singleton.1 hi
          refine wpOp_assign rfl rfl _ rfl (.int .i64 0) rfl (some 7) rfl ?_
          refine ⟨⟨⟨_, below_setRow hy3 hbl _⟩, rfl⟩, ?_⟩
          refine wpAnyH_done (by kernel_rfl) ?_ _
          exact ⟨rfl, wz2.heap.size, _, _, _, _, _, _, _, _, _, rfl, hbl, setRow_heap _ _ _ _ _ _ hx3, below_setRow hy3 hbl _⟩
        · refine wpOp_allocC rfl rfl rfl (some 6) rfl ?_
          have hy4 : Below w2.heap.size w2 (wz1.alloc (.cells zeroC 37)) := hy1.alloc hy1.size _
          have hx4 : (wz1.alloc (.cells zeroC 37)).heap[wz1.heap.size]? = some (.cells zeroC 37 (0, 0)) := heap_new _ _ _ rfl
          refine ⟨⟨⟨_, hy4⟩, rfl⟩, ?_⟩
          simp only [Act.put, List.setIfInBounds_toArray, List.set_cons_succ, List.set_cons_zero]
          refine wpAnyH_all (rs := [5]) (by kernel_rfl) (by decide) ?_
          intro i hi
          obtain rfl := List.mem_singleton.1 hi
          refine wpOp_call rfl rfl 34 #[.const (.int .i64 1), .tmp 36, .tmp 39] (by intro b w; have hf := Tryz.func34; simp [go_sem]) #[.int .i64 1, .int .u32 x.dst, .int .i64 (k1 : Int)] rfl (fun v w' => v = .tuple #[.agg (cv BV BM), .int .i64 0] ∧ Below (wz1.alloc (.cells zeroC 37)).heap.size (wz1.alloc (.cells zeroC 37)) w') ((PX1.out _).mono fun e w' h => ⟨_, h.1, rfl, h.2⟩) (some 40) rfl ?_
          rintro v wz5 ⟨rfl, hz5⟩
          have hy5 : Below w2.heap.size w2 wz5 := hy4.trans (hz5.mono hy4.size)
          have hx5 : wz5.heap[wz1.heap.size]? = some (.cells zeroC 37 (0, 0)) := (hz5.block _ (Array.getElem?_eq_some_iff.1 hx4).1).trans hx4
          refine ⟨⟨⟨wz5, hy5⟩, rfl⟩, ?_⟩
          simp only [Act.put, List.setIfInBounds_toArray, List.set_cons_succ, List.set_cons_zero]
          refine region_reads 6 3 2 rfl (by kernel_rfl) (by kernel_rfl) (by kernel_rfl) (by intro d v c a w h; exact absurd h.1 (by simp)) ⟨⟨wz5, hy5⟩, rfl⟩ ?_
          simp only [List.drop_succ_cons, List.drop_zero, List.take_succ_cons, List.take_zero]
          repeat go_big_quiet_step (fail)
          refine wpQuiet_nil ?_
          refine wpAnyH_all (rs := [10]) (by kernel_rfl) (by decide) ?_
          intro i hi
          obtain rfl := List.mem_singleton.1 hi
          have hbl : w2.heap.size ≤ wz1.heap.size := by have := hy1.size; exact this
          refine wpOp_storeC rfl rfl _ _ rfl (wz1.heap.size) BV BM rfl rfl _ hx5 rfl hBV hBM none rfl ?_
          refine ⟨⟨⟨_, below_setRow hy5 hbl _⟩, rfl⟩, ?_⟩
          refine wpAnyH_all (rs := [11]) (by kernel_rfl) (by decide) ?_
          intro i hi
          obtain rfl := List.mem_singleton.1 hi
          refine wpOp_assign rfl rfl _ rfl (.int .i64 0) rfl (some 7) rfl ?_
          refine ⟨⟨⟨_, below_setRow hy5 hbl _⟩, rfl⟩, ?_⟩
          refine wpAnyH_done (by kernel_rfl) ?_ _
          exact ⟨rfl, wz1.heap.size, _, _, _, _, _, _, _, _, _, rfl, hbl, setRow_heap _ _ _ _ _ _ hx5, below_setRow hy5 hbl _⟩
      · refine wpOp_allocC rfl rfl rfl (some 6) rfl ?_
        have hy6 : Below w2.heap.size w2 (w2.drew.alloc (.cells zeroC 37)) := (Below.refl w2.heap.size w2).drew.alloc (Below.refl w2.heap.size w2).drew.size _
        have hx6 : (w2.drew.alloc (.cells zeroC 37)).heap[w2.drew.heap.size]? = some (.cells zeroC 37 (0, 0)) := heap_new _ _ _ rfl
        refine ⟨⟨⟨_, hy6⟩, rfl⟩, ?_⟩
        simp only [Act.put, List.setIfInBounds_toArray, List.set_cons_succ, List.set_cons_zero]
        refine wpAnyH_all (rs := [4]) (by kernel_rfl) (by decide) ?_
        intro i hi
        obtain rfl := List.mem_singleton.1 hi
        refine wpOp_call rfl rfl 35 #[.tmp 38] (by intro b w; have hf := Tryz.func35; simp [go_sem]) #[.int .i64 x.dstBits] rfl (fun v w' => v = .int .i64 (k1 : Int) ∧ Below (w2.drew.alloc (.cells zeroC 37)).heap.size (w2.drew.alloc (.cells zeroC 37)) w') ((CL1.out _).mono fun e w' h => ⟨_, h.1, rfl, h.2⟩) (some 39) rfl ?_
        rintro v wz7 ⟨rfl, hz7⟩
        have hy7 : Below w2.heap.size w2 wz7 := hy6.trans (hz7.mono hy6.size)
        have hx7 : wz7.heap[w2.drew.heap.size]? = some (.cells zeroC 37 (0, 0)) := (hz7.block _ (Array.getElem?_eq_some_iff.1 hx6).1).trans hx6
        refine ⟨⟨⟨wz7, hy7⟩, rfl⟩, ?_⟩
        simp only [Act.put, List.setIfInBounds_toArray, List.set_cons_succ, List.set_cons_zero]
        refine wpAnyH_all (rs := [5]) (by kernel_rfl) (by decide) ?_
        intro i hi
        obtain rfl := List.mem_singleton.1 hi
        refine wpOp_call rfl rfl 34 #[.const (.int .i64 1), .tmp 36, .tmp 39] (by intro b w; have hf := Tryz.func34; simp [go_sem]) #[.int .i64 1, .int .u32 x.dst, .int .i64 (k1 : Int)] rfl (fun v w' => v = .tuple #[.agg (cv BV BM), .int .i64 0] ∧ Below wz7.heap.size wz7 w') ((PX1.out _).mono fun e w' h => ⟨_, h.1, rfl, h.2⟩) (some 40) rfl ?_
        rintro v wz8 ⟨rfl, hz8⟩
        have hy8 : Below w2.heap.size w2 wz8 := hy7.trans (hz8.mono hy7.size)
        have hx8 : wz8.heap[w2.drew.heap.size]? = some (.cells zeroC 37 (0, 0)) := (hz8.block _ (Array.getElem?_eq_some_iff.1 hx7).1).trans hx7
        refine ⟨⟨⟨wz8, hy8⟩, rfl⟩, ?_⟩
        simp only [Act.put, List.setIfInBounds_toArray, List.set_cons_succ, List.set_cons_zero]
        refine region_reads 6 3 2 rfl (by kernel_rfl) (by kernel_rfl) (by kernel_rfl) (by intro d v c a w h; exact absurd h.1 (by simp)) ⟨⟨wz8, hy8⟩, rfl⟩ ?_
        simp only [List.drop_succ_cons, List.drop_zero, List.take_succ_cons, List.take_zero]
        repeat go_big_quiet_step (fail)
        refine wpQuiet_nil ?_
        refine wpAnyH_all (rs := [10]) (by kernel_rfl) (by decide) ?_
        intro i hi
        obtain rfl := List.mem_singleton.1 hi
        have hbl : w2.heap.size ≤ w2.drew.heap.size := Nat.le_refl _
        refine wpOp_storeC rfl rfl _ _ rfl (w2.drew.heap.size) BV BM rfl rfl _ hx8 rfl hBV hBM none rfl ?_
        refine ⟨⟨⟨_, below_setRow hy8 hbl _⟩, rfl⟩, ?_⟩
        refine wpAnyH_all (rs := [11]) (by kernel_rfl) (by decide) ?_
        intro i hi
        obtain rfl := List.mem_singleton.1 hi
        refine wpOp_assign rfl rfl _ rfl (.int .i64 0) rfl (some 7) rfl ?_
        refine ⟨⟨⟨_, below_setRow hy8 hbl _⟩, rfl⟩, ?_⟩
        refine wpAnyH_done (by kernel_rfl) ?_ _
        exact ⟨rfl, w2.drew.heap.size, _, _, _, _, _, _, _, _, _, rfl, hbl, setRow_heap _ _ _ _ _ _ hx8, below_setRow hy8 hbl _⟩
    · rintro a' w' ⟨gq, y34, y35, y36, y37, y38, y39, y40, y41, y42, rfl, hgq, hcq, hbq⟩
      simp only [Act.put, List.setIfInBounds_toArray, List.set_cons_succ, List.set_cons_zero]
      have N3 : Hid (w'.heap[w.heap.size]? = some (.cells (entV x) 35 (0, 0))) := (hbq.block _ (Array.getElem?_eq_some_iff.1 N2.out).1).trans N2.out
      have Z3 : Hid (w'.heap[w.heap.size + 1]? = some (.cells (cv Z Z) 37 (0, 0))) := (hbq.block _ (Array.getElem?_eq_some_iff.1 Z2.out).1).trans Z2.out
      have A3 : Hid (w'.heap[g4]? = some (.cells (cv AV AM) 37 (0, 0))) := (hbq.block _ (Array.getElem?_eq_some_iff.1 A2.out).1).trans A2.out
      have C3 : Hid (w'.heap[gq]? = some (.cells (cv BV BM) 37 (0, 0))) := hcq
      have B3 : Hid (Below w.heap.size w w') := B2.out.trans (hbq.mono B2.out.size)
      clear l4 l5 ne1 hcq hbq hgq N2 Z2 A2 B2 CL1 PX1
      obtain ⟨w3, hw3⟩ : ∃ w3, w3 = w' := ⟨_, rfl⟩
      rw [← hw3] at N3 Z3 A3 C3 B3 ⊢
      obtain ⟨g6, hg6⟩ : ∃ g, g = gq := ⟨_, rfl⟩
      rw [← hg6] at C3 ⊢
      clear hw3 hg6
      obtain ⟨f0, f2, f3, f4, f5, f6, f7, f8, f9, f10, f11⟩ := ent_g N3.out
      go_wp2_with fail
      refine (PS.out _).mono ?_
      rintro e w4 ⟨vs, rfl, hs4, hb4⟩
      have N4 : Hid (w4.heap[w.heap.size]? = some (.cells (entV x) 35 (0, 0))) := (hb4.block _ (Array.getElem?_eq_some_iff.1 N3.out).1).trans N3.out
      have Z4 : Hid (w4.heap[w.heap.size + 1]? = some (.cells (cv Z Z) 37 (0, 0))) := (hb4.block _ (Array.getElem?_eq_some_iff.1 Z3.out).1).trans Z3.out
      have A4 : Hid (w4.heap[g4]? = some (.cells (cv AV AM) 37 (0, 0))) := (hb4.block _ (Array.getElem?_eq_some_iff.1 A3.out).1).trans A3.out
      have C4 : Hid (w4.heap[g6]? = some (.cells (cv BV BM) 37 (0, 0))) := (hb4.block _ (Array.getElem?_eq_some_iff.1 C3.out).1).trans C3.out
      have B4 : Hid (Below w.heap.size w w4) := B3.out.trans (hb4.mono B3.out.size)
      have S4 : Hid (Sl w4 vs S) := hs4
      obtain ⟨os, cs, rfl, _, _⟩ := Sl.slice hs4
      obtain ⟨ns, hns⟩ : ∃ n, n = S.length := ⟨_, rfl⟩
      rw [← hns] at S4 ⊢
      have HNS : Hid (ns = S.length) := hns
      clear hns
      clear hs4 hb4 N3 Z3 A3 C3 B3 f0 f2 f3 f4 f5 f6 f7 f8 f9 f10 f11
      obtain ⟨f0, f2, f3, f4, f5, f6, f7, f8, f9, f10, f11⟩ := ent_g N4.out
      go_wp2_with fail
      refine (PD.out _).mono ?_
      rintro e wp ⟨vd, rfl, hs5, hb5⟩
      have NP : Hid (wp.heap[w.heap.size]? = some (.cells (entV x) 35 (0, 0))) := (hb5.block _ (Array.getElem?_eq_some_iff.1 N4.out).1).trans N4.out
      have ZP : Hid (wp.heap[w.heap.size + 1]? = some (.cells (cv Z Z) 37 (0, 0))) := (hb5.block _ (Array.getElem?_eq_some_iff.1 Z4.out).1).trans Z4.out
      have AP : Hid (wp.heap[g4]? = some (.cells (cv AV AM) 37 (0, 0))) := (hb5.block _ (Array.getElem?_eq_some_iff.1 A4.out).1).trans A4.out
      have CP : Hid (wp.heap[g6]? = some (.cells (cv BV BM) 37 (0, 0))) := (hb5.block _ (Array.getElem?_eq_some_iff.1 C4.out).1).trans C4.out
      have BP : Hid (Below w.heap.size w wp) := B4.out.trans (hb5.mono B4.out.size)
      have SP : Hid (Sl wp (.slice os ns cs) S) := S4.out.below hb5
      have DP : Hid (Sl wp vd D) := hs5
      obtain ⟨od, cd, rfl, _, _⟩ := Sl.slice hs5
      obtain ⟨nd, hnd⟩ : ∃ n, n = D.length := ⟨_, rfl⟩
      rw [← hnd] at DP ⊢
      have HND : Hid (nd = D.length) := hnd
      clear hnd
      clear hs5 hb5 N4 Z4 A4 C4 B4 S4 f0 f2 f3 f4 f5 f6 f7 f8 f9 f10 f11
      have f10 : (wp.alloc (.cells (cv Z Z) 37)).cell? ⟨w.heap.size, 10, none⟩ = some (.int .i64 x.proto) := (ent_g (heap_past _ _ _ _ NP.out)).2.2.2.2.2.2.2.2.2.1
      have P6 : Hid ((wp.alloc (.cells (cv Z Z) 37)).heap[wp.heap.size]? = some (.cells (cv Z Z) 37 (0, 0))) := heap_new _ _ _ rfl
      have B6 : Hid (Below wp.heap.size wp (wp.alloc (.cells (cv Z Z) 37))) := (Below.refl _ _).alloc (Nat.le_refl _) _
      by_cases hpe : x.proto = -1
      · rw [hpe] at f10
        have e1 := PE.out hpe
        have e2 := PF.out hpe
        have P6 : Hid ((wp.alloc (.cells (cv Z Z) 37)).heap[wp.heap.size]? = some (.cells (cv PV PM) 37 (0, 0))) := by rw [e1, e2]; exact P6.out
        clear e1 e2
        go_wp2_with (first
          | (refine wl_loadC rfl _ rfl (w.heap.size + 1) rfl Z Z ZP.out hZl hZl ?_)
          | (refine wl_storeC rfl _ _ rfl wp.heap.size Z Z rfl rfl _ (heap_new _ _ _ rfl) rfl hZl hZl _ (setRow_new _ _ _ _ _ rfl) ?_)
          | (refine wl_loadC rfl _ rfl g4 rfl AV AM (heap_past _ _ _ _ AP.out) hAV hAM ?_)
          | (refine wl_loadC rfl _ rfl g6 rfl BV BM (heap_past _ _ _ _ CP.out) hBV hBM ?_))
        refine (M1.out _).mono ?_
        rintro e w7 ⟨rfl, hb7⟩
        have B7 : Hid (Below wp.heap.size wp w7) := B6.out.trans (hb7.mono B6.out.size)
        have P7 : Hid (w7.heap[wp.heap.size]? = some (.cells (cv PV PM) 37 (0, 0))) := (hb7.block _ (Array.getElem?_eq_some_iff.1 P6.out).1).trans P6.out
        have F7 : Hid ((w7.alloc (.cells (cv FV FM) 37)).heap[w7.heap.size]? = some (.cells (cv FV FM) 37 (0, 0))) := heap_new _ _ _ rfl
        have BA : Hid (Below wp.heap.size wp (w7.alloc (.cells (cv FV FM) 37))) := B7.out.alloc B7.out.size _
        clear hb7 P6 B6
        go_wp2_with (first
          | (refine wl_storeC rfl _ _ rfl w7.heap.size FV FM rfl rfl _ (heap_new _ _ _ rfl) rfl hFV hFM _ (setRow_new _ _ _ _ _ rfl) ?_)
          | (refine wl_loadC rfl _ rfl w7.heap.size rfl FV FM F7.out hFV hFM ?_)
          | (refine wl_loadC rfl _ rfl wp.heap.size rfl PV PM (heap_past _ _ _ _ P7.out) hPV hPM ?_))
        refine (M2.out _).mono ?_
        rintro e w8 ⟨rfl, hb8⟩
        have F8 : Hid (w8.heap[w7.heap.size]? = some (.cells (cv FV FM) 37 (0, 0))) := (hb8.block _ (Array.getElem?_eq_some_iff.1 F7.out).1).trans F7.out
        have B8 : Hid (Below wp.heap.size wp (w8.setRow w7.heap.size (cv CV CM))) := below_setRow (BA.out.trans (hb8.mono BA.out.size)) B7.out.size _
        have C8 : Hid ((w8.setRow w7.heap.size (cv CV CM)).heap[w7.heap.size]? = some (.cells (cv CV CM) 37 (0, 0))) := setRow_heap _ _ _ _ _ _ F8.out
        clear hb8 F7 BA P7 B7
        go_wp2_with (first
          | (refine wl_storeC rfl _ _ rfl w7.heap.size CV CM rfl rfl _ F8.out (cv_size _ _ hFV hFM) hCV hCM _ rfl ?_)
          | (refine wl_build0R (E := CubE) CubOk rfl rfl ?_))
        obtain ⟨wb, hwb⟩ : ∃ wb, wb = w8.setRow w7.heap.size (cv CV CM) := ⟨_, rfl⟩
        rw [← hwb] at B8 C8 ⊢
        obtain ⟨g13, hg13⟩ : ∃ g, g = w7.heap.size := ⟨_, rfl⟩
        rw [← hg13] at C8 ⊢
        have SB : Hid (Sl wb (.slice os ns cs) S) := SP.out.below B8.out
        have DB : Hid (Sl wb (.slice od nd cd) D) := DP.out.below B8.out
        have BB : Hid (Below w.heap.size w wb) := BP.out.trans (B8.out.mono BP.out.size)
        have hsb : (w8.setRow w7.heap.size (cv CV CM)).heap.size = w8.heap.size := by simp [World.setRow]
        rw [← hwb] at hsb
        clear hwb hg13 F8 SP DP BP B8 AP CP NP ZP f10
        have hn1 : ns ≤ 30 := by have h1 := HSL.out; have h2 := HNS.out; omega
        have hn2 : nd ≤ 30 := by have h1 := HDL.out; have h2 := HND.out; omega
        go_loopw [15, 16] (fun v i wr => ∃ (k : Nat) (X : List CubeT), k ≤ ns ∧ i = .int .i64 (k : Int) ∧ Hid (X = allRows (CV, CM) (S.take k) D) ∧ wr.ownsRow wb.heap.size 37 26 v X.length (ccells X) ∧ Below wb.heap.size wb wr) (fun _ i _ => ns - (intOf i).toNat)
        case atStart => exact ⟨0, [], Nat.zero_le _, rfl, rfl, by first | exact own0R wb _ _ | (rw [← hsb]; exact own0R wb _ _) | (simpa [hsb] using own0R wb _ _), (Below.refl _ _).alloc (Nat.le_refl _) _⟩
        case round =>
          obtain ⟨k, X, hk, rfl, HX, hown, hb⟩ := hrel
          obtain ⟨wo, hwo⟩ : ∃ wo : World, wo = wr := ⟨_, rfl⟩
          rw [← hwo] at hown hb ⊢
          have OWO : Hid (wo.ownsRow wb.heap.size 37 26 u15 X.length (ccells X)) := hown
          have HBO : Hid (Below wb.heap.size wb wo) := hb
          clear hwo wr hown hb
          by_cases hlt : k < ns
          · have hlt' : (k : Int) < (ns : Int) := by omega
            obtain ⟨g, off, cur, t, fr, U, N, rfl, hg, hc, hSk, hU, hN⟩ := SB.out.at k hlt
            have hUl := hU.1
            have hNl := hN.1
            have HG : Hid (wb.heap[g]? = some (.cells cur t fr)) := hg
            have HC : Hid (∀ j, j < 26 → cur[off + k * 26 + j]? = (cv U N)[j]?) := hc
            have HSK : Hid (S[k]? = some (U, N)) := hSk
            have HMS : Hid ((U, N) ∈ S) := List.mem_of_getElem? hSk
            obtain ⟨⟨GV, GM⟩, hGM⟩ : ∃ c, c = met (CV, CM) (U, N) := ⟨_, rfl⟩
            have hGl : GV.length = 13 ∧ GM.length = 13 := by have := met_byt (CV, CM) (U, N); rw [← hGM] at this; exact ⟨this.1.1, this.2.1⟩
            have hGV := hGl.1
            have hGMl := hGl.2
            have HGM : Hid ((GV, GM) = met (CV, CM) (U, N)) := hGM
            have D1 : Hid (∀ W, Calls Tryz.prog 38 #[.agg (cv CV CM), .agg (cv U N)] W fun e w' => e = .returned (.tuple #[.agg (cv GV GM), .bool true]) ∧ Below W.heap.size W w') := fun W => by
              have := MS.out _ HMS.out W
              rw [← hGM] at this
              exact this
            clear hg hc hSk hU hN hGM hGl
            go_wp2_with fail
            go_loopw [15, 17] (fun v i wr => ∃ (j : Nat) (Y : List CubeT), j ≤ nd ∧ i = .int .i64 (j : Int) ∧ Hid (Y = X ++ rowC (CV, CM) (U, N) (D.take j)) ∧ wr.ownsRow wb.heap.size 37 26 v Y.length (ccells Y) ∧ Below wb.heap.size wb wr) (fun _ i _ => nd - (intOf i).toNat)
            case atStart => exact ⟨0, X, Nat.zero_le _, rfl, by show X = _; rw [List.take_zero, row_none, List.append_nil], OWO.out, HBO.out⟩
            case round =>
              obtain ⟨j, Y, hj, rfl, HY, hown, hb⟩ := hrel
              have OWN : Hid (wr.ownsRow wb.heap.size 37 26 u15 Y.length (ccells Y)) := hown
              have HBI : Hid (Below wb.heap.size wb wr) := hb
              have HYL : Hid (Y.length ≤ 10000) := by
                show _ ≤ _
                rw [HY.out, HX.out, List.length_append, rows_len, row_len, List.length_take, List.length_take]
                have h1 := HSL.out
                have h2 := HDL.out
                have := Nat.mul_le_mul (show min k S.length ≤ 30 by omega) h2
                omega
              clear hown hb
              by_cases hjl : j < nd
              · have hjl' : (j : Int) < (nd : Int) := by omega
                obtain ⟨g2, off2, cur2, t2, fr2, U2, N2, rfl, hg2, hc2, hDj, hU2, hN2⟩ := DB.out.at j hjl
                have hUl2 := hU2.1
                have hNl2 := hN2.1
                have hg1' : wr.heap[g]? = some (.cells cur t fr) := (HBI.out.block g (Array.getElem?_eq_some_iff.1 HG.out).1).trans HG.out
                have c13 : wr.heap[g13]? = some (.cells (cv CV CM) 37 (0, 0)) := (HBI.out.block _ (Array.getElem?_eq_some_iff.1 C8.out).1).trans C8.out
                have HG2 : Hid (wr.heap[g2]? = some (.cells cur2 t2 fr2)) := (HBI.out.block g2 (Array.getElem?_eq_some_iff.1 hg2).1).trans hg2
                have HC2 : Hid (∀ i, i < 26 → cur2[off2 + j * 26 + i]? = (cv U2 N2)[i]?) := hc2
                have HDJ : Hid (D[j]? = some (U2, N2)) := hDj
                obtain ⟨⟨HV, HM⟩, hHM⟩ : ∃ c, c = met (met (CV, CM) (U, N)) (U2, N2) := ⟨_, rfl⟩
                have hHl : HV.length = 13 ∧ HM.length = 13 := by have := met_byt (met (CV, CM) (U, N)) (U2, N2); rw [← hHM] at this; exact ⟨this.1.1, this.2.1⟩
                have hHV := hHl.1
                have hHMl := hHl.2
                have HHM : Hid ((HV, HM) = met (met (CV, CM) (U, N)) (U2, N2)) := hHM
                have D2 : Hid (∀ W, Calls Tryz.prog 38 #[.agg (cv GV GM), .agg (cv U2 N2)] W fun e w' => e = .returned (.tuple #[.agg (cv HV HM), .bool true]) ∧ Below W.heap.size W w') := fun W => by
                  have := MD.out _ HMS.out _ (List.mem_of_getElem? hDj) W
                  rw [← hHM, ← HGM.out] at this
                  exact this
                clear hg2 hc2 hDj hU2 hN2 hHM hHl
                go_wp2_with fail
                have ne1 := Later.ne wr
                refine region_cut (fun a a' w' => ∃ gq y94 y95 y96 y97 y98 y99 y100 y101 y102, a' = (((((((((((a.put (some 18) (.pointer (some ⟨gq, 0, none⟩))).put (some 19) (.bool true)).put (some 94) y94).put (some 95) y95).put (some 96) y96).put (some 97) y97).put (some 98) y98).put (some 99) y99).put (some 100) y100).put (some 101) y101).put (some 102) y102) ∧ wr.heap.size ≤ gq ∧ w'.heap[gq]? = some (.cells (cv GV GM) 37 (0, 0)) ∧ Below wr.heap.size wr w') ?_ ?_
                · refine region_begin 12 rfl (by kernel_rfl) ?_
                  refine region_reads 0 5 7 rfl (by kernel_rfl) (by kernel_rfl) (by kernel_rfl) (by intro d v c a w h; exact absurd h.1 (by simp)) ⟨⟨wr.drew, (Below.refl _ _).drew⟩, rfl⟩ ?_
                  simp only [List.drop_zero, List.take_succ_cons, List.take_zero]
                  refine qlC rfl _ rfl g13 rfl CV CM c13 hCV hCM ?_
                  simp only [Act.put, List.setIfInBounds_toArray, List.set_cons_succ, List.set_cons_zero]
                  go_big_quiet_step (fail)
                  go_big_quiet_step (fail)
                  go_big_quiet_step (fail)
                  refine qlSl rfl _ rfl g (off + k * 26) rfl cur t fr U N hUl hNl hg1' HC.out ?_
                  simp only [Act.put, List.setIfInBounds_toArray, List.set_cons_succ, List.set_cons_zero]
                  refine wpQuiet_nil ?_
                  refine wpAnyH_all (rs := [5, 9]) (by kernel_rfl) (by decide) ?_
                  intro i hi
                  simp only [List.mem_cons, List.not_mem_nil, or_false] at hi
                  rcases hi with rfl | rfl
                  · refine wpOp_call rfl rfl 38 #[.tmp 95, .tmp 99] (by intro b w; have hf := Tryz.func38; simp [go_sem]) #[.agg (cv CV CM), .agg (cv U N)] rfl (fun v w' => v = .tuple #[.agg (cv GV GM), .bool true] ∧ Below wr.drew.heap.size wr.drew w') ((D1.out _).mono fun e w' h => ⟨_, h.1, rfl, h.2⟩) (some 100) rfl ?_
                    rintro v wz1 ⟨rfl, hz1⟩
                    have hy1 : Below wr.heap.size wr wz1 := (Below.refl wr.heap.size wr).drew.trans (hz1.mono (Below.refl wr.heap.size wr).drew.size)
                    refine ⟨⟨⟨wz1, hy1⟩, rfl⟩, ?_⟩
                    simp only [Act.put, List.setIfInBounds_toArray, List.set_cons_succ, List.set_cons_zero]
                    refine region_reads 6 3 3 rfl (by kernel_rfl) (by kernel_rfl) (by kernel_rfl) (by intro d v c a w h; exact absurd h.1 (by simp)) ⟨⟨wz1, hy1⟩, rfl⟩ ?_
                    simp only [List.drop_succ_cons, List.drop_zero, List.take_succ_cons, List.take_zero]
                    repeat go_big_quiet_step (fail)
                    refine wpQuiet_nil ?_
                    refine wpAnyH_all (rs := [9]) (by kernel_rfl) (by decide) ?_
                    intro i hi
                    obtain rfl := List.mem_singleton.1 hi
                    refine wpOp_allocC rfl rfl rfl (some 18) rfl ?_
                    have hy2 : Below wr.heap.size wr (wz1.alloc (.cells zeroC 37)) := hy1.alloc hy1.size _
                    have hx2 : (wz1.alloc (.cells zeroC 37)).heap[wz1.heap.size]? = some (.cells zeroC 37 (0, 0)) := heap_new _ _ _ rfl
                    refine ⟨⟨⟨_, hy2⟩, rfl⟩, ?_⟩
                    simp only [Act.put, List.setIfInBounds_toArray, List.set_cons_succ, List.set_cons_zero]
                    refine wpAnyH_all (rs := [10]) (by kernel_rfl) (by decide) ?_
                    intro i hi
                    obtain rfl := List.mem_singleton.1 hi
                    have hbl : wr.heap.size ≤ wz1.heap.size := by have := hy1.size; exact this
                    refine wpOp_storeC rfl rfl _ _ rfl (wz1.heap.size) GV GM rfl rfl _ hx2 rfl hGV hGMl none rfl ?_
                    refine ⟨⟨⟨_, below_setRow hy2 hbl _⟩, rfl⟩, ?_⟩
                    refine wpAnyH_all (rs := [11]) (by kernel_rfl) (by decide) ?_
                    intro i hi
                    obtain rfl := List.mem_singleton.1 hi
                    refine wpOp_assign rfl rfl _ rfl (.bool true) rfl (some 19) rfl ?_
                    refine ⟨⟨⟨_, below_setRow hy2 hbl _⟩, rfl⟩, ?_⟩
                    refine wpAnyH_done (by kernel_rfl) ?_ _
                    exact ⟨rfl, wz1.heap.size, _, _, _, _, _, _, _, _, _, rfl, hbl, setRow_heap _ _ _ _ _ _ hx2, below_setRow hy2 hbl _⟩
                  · refine wpOp_allocC rfl rfl rfl (some 18) rfl ?_
                    have hy3 : Below wr.heap.size wr (wr.drew.alloc (.cells zeroC 37)) := (Below.refl wr.heap.size wr).drew.alloc (Below.refl wr.heap.size wr).drew.size _
                    have hx3 : (wr.drew.alloc (.cells zeroC 37)).heap[wr.drew.heap.size]? = some (.cells zeroC 37 (0, 0)) := heap_new _ _ _ rfl
                    refine ⟨⟨⟨_, hy3⟩, rfl⟩, ?_⟩
                    simp only [Act.put, List.setIfInBounds_toArray, List.set_cons_succ, List.set_cons_zero]
                    refine wpAnyH_all (rs := [5]) (by kernel_rfl) (by decide) ?_
                    intro i hi
                    obtain rfl := List.mem_singleton.1 hi
                    refine wpOp_call rfl rfl 38 #[.tmp 95, .tmp 99] (by intro b w; have hf := Tryz.func38; simp [go_sem]) #[.agg (cv CV CM), .agg (cv U N)] rfl (fun v w' => v = .tuple #[.agg (cv GV GM), .bool true] ∧ Below (wr.drew.alloc (.cells zeroC 37)).heap.size (wr.drew.alloc (.cells zeroC 37)) w') ((D1.out _).mono fun e w' h => ⟨_, h.1, rfl, h.2⟩) (some 100) rfl ?_
                    rintro v wz4 ⟨rfl, hz4⟩
                    have hy4 : Below wr.heap.size wr wz4 := hy3.trans (hz4.mono hy3.size)
                    have hx4 : wz4.heap[wr.drew.heap.size]? = some (.cells zeroC 37 (0, 0)) := (hz4.block _ (Array.getElem?_eq_some_iff.1 hx3).1).trans hx3
                    refine ⟨⟨⟨wz4, hy4⟩, rfl⟩, ?_⟩
                    simp only [Act.put, List.setIfInBounds_toArray, List.set_cons_succ, List.set_cons_zero]
                    refine region_reads 6 3 2 rfl (by kernel_rfl) (by kernel_rfl) (by kernel_rfl) (by intro d v c a w h; exact absurd h.1 (by simp)) ⟨⟨wz4, hy4⟩, rfl⟩ ?_
                    simp only [List.drop_succ_cons, List.drop_zero, List.take_succ_cons, List.take_zero]
                    repeat go_big_quiet_step (fail)
                    refine wpQuiet_nil ?_
                    refine wpAnyH_all (rs := [10]) (by kernel_rfl) (by decide) ?_
                    intro i hi
                    obtain rfl := List.mem_singleton.1 hi
                    have hbl : wr.heap.size ≤ wr.drew.heap.size := Nat.le_refl _
                    refine wpOp_storeC rfl rfl _ _ rfl (wr.drew.heap.size) GV GM rfl rfl _ hx4 rfl hGV hGMl none rfl ?_
                    refine ⟨⟨⟨_, below_setRow hy4 hbl _⟩, rfl⟩, ?_⟩
                    refine wpAnyH_all (rs := [11]) (by kernel_rfl) (by decide) ?_
                    intro i hi
                    obtain rfl := List.mem_singleton.1 hi
                    refine wpOp_assign rfl rfl _ rfl (.bool true) rfl (some 19) rfl ?_
                    refine ⟨⟨⟨_, below_setRow hy4 hbl _⟩, rfl⟩, ?_⟩
                    refine wpAnyH_done (by kernel_rfl) ?_ _
                    exact ⟨rfl, wr.drew.heap.size, _, _, _, _, _, _, _, _, _, rfl, hbl, setRow_heap _ _ _ _ _ _ hx4, below_setRow hy4 hbl _⟩
                · rintro a' w' ⟨gq, y94, y95, y96, y97, y98, y99, y100, y101, y102, rfl, hgq, hcq, hbq⟩
                  simp only [Act.put, List.setIfInBounds_toArray, List.set_cons_succ, List.set_cons_zero]
                  have OW2 : Hid (w'.ownsRow wb.heap.size 37 26 u15 Y.length (ccells Y)) := own_below OWN.out hbq
                  have NE2 : Hid (u15.ownBlock ≠ some gq) := own_ne OWN.out hgq
                  have hg2' : w'.heap[g2]? = some (.cells cur2 t2 fr2) := (hbq.block _ (Array.getElem?_eq_some_iff.1 HG2.out).1).trans HG2.out
                  have c18 : w'.heap[gq]? = some (.cells (cv GV GM) 37 (0, 0)) := hcq
                  have B5 : Hid (Below wb.heap.size wb w') := HBI.out.trans (hbq.mono HBI.out.size)
                  have GQ : Hid (wb.heap.size ≤ gq) := Nat.le_trans HBI.out.size hgq
                  clear hg1' c13 HG2 D1 ne1 OWN HBI hcq hbq hgq
                  obtain ⟨w5, hw5⟩ : ∃ w5, w5 = w' := ⟨_, rfl⟩
                  rw [← hw5] at OW2 hg2' c18 B5 ⊢
                  clear hw5
                  go_wp2_with fail
                  have ne1 := Later.ne w5
                  refine wp_region_head 6 4 #[true, true, true, true, true, true, false, false, false, false] (by kernel_rfl) (by kernel_rfl) (by kernel_rfl) (by kernel_rfl) (by kernel_rfl) (by kernel_rfl) rfl ?_
                  simp only [List.take_succ_cons, List.take_zero]
                  refine qlC rfl _ rfl gq rfl GV GM c18 hGV hGMl ?_
                  simp only [Act.put, List.setIfInBounds_toArray, List.set_cons_succ, List.set_cons_zero]
                  go_big_quiet_step (fail)
                  go_big_quiet_step (fail)
                  go_big_quiet_step (fail)
                  refine qlSl rfl _ rfl g2 (off2 + j * 26) rfl cur2 t2 fr2 U2 N2 hUl2 hNl2 hg2' HC2.out ?_
                  simp only [Act.put, List.setIfInBounds_toArray, List.set_cons_succ, List.set_cons_zero]
                  go_big_quiet_want; go_big_quiet_op
                  refine ⟨_, fun u => Calls.later_of (D2.out u.world), ?_⟩
                  go_big_quiet_on
                  refine wpQuiet_nil ?_
                  rintro w' ⟨u, rfl⟩
                  have k2 := later_block c18 _ ⟨u, rfl⟩
                  have OW3 : Hid ((u.world.setRow gq (cv HV HM)).ownsRow wb.heap.size 37 26 u15 Y.length (ccells Y)) := own_setRow_ne (own_below OW2.out u.below) gq NE2.out _
                  have B6 : Hid (Below wb.heap.size wb (u.world.setRow gq (cv HV HM))) := below_setRow (B5.out.trans (u.below.mono B5.out.size)) GQ.out _
                  have C6 : Hid ((u.world.setRow gq (cv HV HM)).heap[gq]? = some (.cells (cv HV HM) 37 (0, 0))) := setRow_heap _ _ _ _ _ _ k2
                  clear ne1 D2 hg2' c18 OW2 B5
                  refine any_fix6 (v := .tuple #[.agg (cv HV HM), .bool true]) (v0 := .agg (cv HV HM)) (v1 := .bool true) (w' := u.world.setRow gq (cv HV HM)) (by kernel_rfl) (by kernel_rfl) (by kernel_rfl) (by kernel_rfl) (by kernel_rfl) (by kernel_rfl) (by kernel_rfl) rfl rfl rfl rfl rfl (run_move _ _ _ _ _ _ rfl rfl)
                    (run_extract _ _ _ _ _ _ _ _ rfl rfl rfl) (run_extract _ _ _ _ _ _ _ _ rfl rfl rfl) (run_extract _ _ _ _ _ _ _ _ rfl rfl rfl) (run_extract _ _ _ _ _ _ _ _ rfl rfl rfl) (run_extract _ _ _ _ _ _ _ _ rfl rfl rfl)
                    (run_storeC _ _ _ _ _ rfl gq _ _ rfl rfl _ k2 (cv_size _ _ hGV hGMl) hHV hHMl) (run_storeC _ _ _ _ _ rfl gq _ _ rfl rfl _ k2 (cv_size _ _ hGV hGMl) hHV hHMl) rfl ?_
                  simp only [Act.put, List.setIfInBounds_toArray, List.set_cons_succ, List.set_cons_zero]
                  obtain ⟨w6, hw6⟩ : ∃ w6, w6 = u.world.setRow gq (cv HV HM) := ⟨_, rfl⟩
                  rw [← hw6] at OW3 B6 C6 ⊢
                  clear hw6 k2
                  go_wp2_with (first
                    | (refine wl_loadC rfl _ rfl gq rfl HV HM C6.out hHV hHMl ?_)
                    | (refine wl_build1 rfl _ rfl HV HM hHV hHMl rfl ?_)
                    | (at_builtin; refine of_stopped ?_))
                  unfold Stopped
                  have OW4 : Hid ((w6.alloc (.cells (cv HV HM) 37)).ownsRow wb.heap.size 37 26 u15 Y.length (ccells Y)) := OW3.out.alloc _
                  have B7 : Hid (Below wb.heap.size wb (w6.alloc (.cells (cv HV HM) 37))) := B6.out.alloc B6.out.size _
                  refine wl_append1 rfl _ _ rfl wb.heap.size u15 Y HV HM hHV hHMl rfl OW4.out w6.heap.size 1 rfl (heap_new _ _ _ rfl) (by have := HYL.out; omega) (by have := B6.out.size; simp; omega) ?_
                  intro v' w9 hown9 hgr9 _
                  have O9 : Hid (w9.ownsRow wb.heap.size 37 26 v' (Y ++ [(HV, HM)]).length (ccells (Y ++ [(HV, HM)]))) := hown9
                  have B9 : Hid (Below wb.heap.size wb w9) := B7.out.grown hgr9 B7.out.size (fun q hq => (OW4.out.lt q hq).1)
                  clear hown9 hgr9
                  simp only [Act.put, List.setIfInBounds_toArray, List.set_cons_succ, List.set_cons_zero]
                  go_wp2_with fail
                  go_roundw
                  case rel =>
                    refine ⟨j + 1, Y ++ [(HV, HM)], by omega, by go_num, ?_, O9.out, B9.out⟩
                    show Y ++ [(HV, HM)] = _
                    rw [row_take HDJ.out, HY.out, HHM.out, List.append_assoc]
                  case measure => simp [intOf]; omega
              · have hjl' : ¬ (j : Int) < (nd : Int) := by omega
                go_wp2_with fail
                go_roundw
                case rel =>
                  refine ⟨k + 1, Y, by omega, by go_num, ?_, OWN.out, HBI.out⟩
                  show Y = _
                  rw [rows_take HSK.out, HY.out, HX.out, show D.take j = D from List.take_of_length_le (by have := HND.out; omega)]
                case measure => simp [intOf]; omega
          · have hlt' : ¬ (k : Int) < (ns : Int) := by omega
            have HXX : Hid (X = cubesT x) := by
              show X = _
              rw [HX.out, HCT.out, show S.take k = S from List.take_of_length_le (by have := HNS.out; omega)]
            go_wp2_with fail
            go_ret
            exact ⟨⟨_, rfl, by rw [← HXX.out]; exact own_base OWO.out BB.out.size⟩, BB.out.trans (HBO.out.mono BB.out.size)⟩
      · have hne : (x.proto != -1) = true := by simp [hpe]
        have PRR := PR.out hpe
        have PQ : Hid (∀ W, Calls Tryz.prog 37 #[.int .i64 x.proto] W fun e w' => e = .returned (.tuple #[.agg (cv PV PM), .int .i64 0]) ∧ Below W.heap.size W w') := PRR
        clear PRR
        go_wp2_with (first
          | (refine wl_loadC rfl _ rfl (w.heap.size + 1) rfl Z Z ZP.out hZl hZl ?_)
          | (refine wl_storeC rfl _ _ rfl wp.heap.size Z Z rfl rfl _ (heap_new _ _ _ rfl) rfl hZl hZl _ (setRow_new _ _ _ _ _ rfl) ?_))
        refine (PQ.out _).mono ?_
        rintro e w5 ⟨rfl, hb5⟩
        have P5 : Hid (w5.heap[wp.heap.size]? = some (.cells (cv Z Z) 37 (0, 0))) := (hb5.block _ (Array.getElem?_eq_some_iff.1 P6.out).1).trans P6.out
        have B5 : Hid (Below wp.heap.size wp (w5.setRow wp.heap.size (cv PV PM))) := below_setRow (B6.out.trans (hb5.mono B6.out.size)) (Nat.le_refl _) _
        have Q5 : Hid ((w5.setRow wp.heap.size (cv PV PM)).heap[wp.heap.size]? = some (.cells (cv PV PM) 37 (0, 0))) := setRow_heap _ _ _ _ _ _ P5.out
        have A5 : Hid ((w5.setRow wp.heap.size (cv PV PM)).heap[g4]? = some (.cells (cv AV AM) 37 (0, 0))) := (B5.out.block _ (Array.getElem?_eq_some_iff.1 AP.out).1).trans AP.out
        have C5 : Hid ((w5.setRow wp.heap.size (cv PV PM)).heap[g6]? = some (.cells (cv BV BM) 37 (0, 0))) := (B5.out.block _ (Array.getElem?_eq_some_iff.1 CP.out).1).trans CP.out
        clear hb5 P6 B6
        go_wp2_with (first
          | (refine wl_storeC rfl _ _ rfl wp.heap.size PV PM rfl rfl _ P5.out (cv_size _ _ hZl hZl) hPV hPM _ rfl ?_)
          | (refine wl_loadC rfl _ rfl g4 rfl AV AM A5.out hAV hAM ?_)
          | (refine wl_loadC rfl _ rfl g6 rfl BV BM C5.out hBV hBM ?_))
        have P6 := Q5
        have B6 := B5
        refine (M1.out _).mono ?_
        rintro e w7 ⟨rfl, hb7⟩
        have B7 : Hid (Below wp.heap.size wp w7) := B6.out.trans (hb7.mono B6.out.size)
        have P7 : Hid (w7.heap[wp.heap.size]? = some (.cells (cv PV PM) 37 (0, 0))) := (hb7.block _ (Array.getElem?_eq_some_iff.1 P6.out).1).trans P6.out
        have F7 : Hid ((w7.alloc (.cells (cv FV FM) 37)).heap[w7.heap.size]? = some (.cells (cv FV FM) 37 (0, 0))) := heap_new _ _ _ rfl
        have BA : Hid (Below wp.heap.size wp (w7.alloc (.cells (cv FV FM) 37))) := B7.out.alloc B7.out.size _
        clear hb7 P6 B6
        go_wp2_with (first
          | (refine wl_storeC rfl _ _ rfl w7.heap.size FV FM rfl rfl _ (heap_new _ _ _ rfl) rfl hFV hFM _ (setRow_new _ _ _ _ _ rfl) ?_)
          | (refine wl_loadC rfl _ rfl w7.heap.size rfl FV FM F7.out hFV hFM ?_)
          | (refine wl_loadC rfl _ rfl wp.heap.size rfl PV PM (heap_past _ _ _ _ P7.out) hPV hPM ?_))
        refine (M2.out _).mono ?_
        rintro e w8 ⟨rfl, hb8⟩
        have F8 : Hid (w8.heap[w7.heap.size]? = some (.cells (cv FV FM) 37 (0, 0))) := (hb8.block _ (Array.getElem?_eq_some_iff.1 F7.out).1).trans F7.out
        have B8 : Hid (Below wp.heap.size wp (w8.setRow w7.heap.size (cv CV CM))) := below_setRow (BA.out.trans (hb8.mono BA.out.size)) B7.out.size _
        have C8 : Hid ((w8.setRow w7.heap.size (cv CV CM)).heap[w7.heap.size]? = some (.cells (cv CV CM) 37 (0, 0))) := setRow_heap _ _ _ _ _ _ F8.out
        clear hb8 F7 BA P7 B7
        go_wp2_with (first
          | (refine wl_storeC rfl _ _ rfl w7.heap.size CV CM rfl rfl _ F8.out (cv_size _ _ hFV hFM) hCV hCM _ rfl ?_)
          | (refine wl_build0R (E := CubE) CubOk rfl rfl ?_))
        obtain ⟨wb, hwb⟩ : ∃ wb, wb = w8.setRow w7.heap.size (cv CV CM) := ⟨_, rfl⟩
        rw [← hwb] at B8 C8 ⊢
        obtain ⟨g13, hg13⟩ : ∃ g, g = w7.heap.size := ⟨_, rfl⟩
        rw [← hg13] at C8 ⊢
        have SB : Hid (Sl wb (.slice os ns cs) S) := SP.out.below B8.out
        have DB : Hid (Sl wb (.slice od nd cd) D) := DP.out.below B8.out
        have BB : Hid (Below w.heap.size w wb) := BP.out.trans (B8.out.mono BP.out.size)
        have hsb : (w8.setRow w7.heap.size (cv CV CM)).heap.size = w8.heap.size := by simp [World.setRow]
        rw [← hwb] at hsb
        clear hwb hg13 F8 SP DP BP B8 AP CP NP ZP f10
        have hn1 : ns ≤ 30 := by have h1 := HSL.out; have h2 := HNS.out; omega
        have hn2 : nd ≤ 30 := by have h1 := HDL.out; have h2 := HND.out; omega
        go_loopw [15, 16] (fun v i wr => ∃ (k : Nat) (X : List CubeT), k ≤ ns ∧ i = .int .i64 (k : Int) ∧ Hid (X = allRows (CV, CM) (S.take k) D) ∧ wr.ownsRow wb.heap.size 37 26 v X.length (ccells X) ∧ Below wb.heap.size wb wr) (fun _ i _ => ns - (intOf i).toNat)
        case atStart => exact ⟨0, [], Nat.zero_le _, rfl, rfl, by first | exact own0R wb _ _ | (rw [← hsb]; exact own0R wb _ _) | (simpa [hsb] using own0R wb _ _), (Below.refl _ _).alloc (Nat.le_refl _) _⟩
        case round =>
          obtain ⟨k, X, hk, rfl, HX, hown, hb⟩ := hrel
          obtain ⟨wo, hwo⟩ : ∃ wo : World, wo = wr := ⟨_, rfl⟩
          rw [← hwo] at hown hb ⊢
          have OWO : Hid (wo.ownsRow wb.heap.size 37 26 u15 X.length (ccells X)) := hown
          have HBO : Hid (Below wb.heap.size wb wo) := hb
          clear hwo wr hown hb
          by_cases hlt : k < ns
          · have hlt' : (k : Int) < (ns : Int) := by omega
            obtain ⟨g, off, cur, t, fr, U, N, rfl, hg, hc, hSk, hU, hN⟩ := SB.out.at k hlt
            have hUl := hU.1
            have hNl := hN.1
            have HG : Hid (wb.heap[g]? = some (.cells cur t fr)) := hg
            have HC : Hid (∀ j, j < 26 → cur[off + k * 26 + j]? = (cv U N)[j]?) := hc
            have HSK : Hid (S[k]? = some (U, N)) := hSk
            have HMS : Hid ((U, N) ∈ S) := List.mem_of_getElem? hSk
            obtain ⟨⟨GV, GM⟩, hGM⟩ : ∃ c, c = met (CV, CM) (U, N) := ⟨_, rfl⟩
            have hGl : GV.length = 13 ∧ GM.length = 13 := by have := met_byt (CV, CM) (U, N); rw [← hGM] at this; exact ⟨this.1.1, this.2.1⟩
            have hGV := hGl.1
            have hGMl := hGl.2
            have HGM : Hid ((GV, GM) = met (CV, CM) (U, N)) := hGM
            have D1 : Hid (∀ W, Calls Tryz.prog 38 #[.agg (cv CV CM), .agg (cv U N)] W fun e w' => e = .returned (.tuple #[.agg (cv GV GM), .bool true]) ∧ Below W.heap.size W w') := fun W => by
              have := MS.out _ HMS.out W
              rw [← hGM] at this
              exact this
            clear hg hc hSk hU hN hGM hGl
            go_wp2_with fail
            go_loopw [15, 17] (fun v i wr => ∃ (j : Nat) (Y : List CubeT), j ≤ nd ∧ i = .int .i64 (j : Int) ∧ Hid (Y = X ++ rowC (CV, CM) (U, N) (D.take j)) ∧ wr.ownsRow wb.heap.size 37 26 v Y.length (ccells Y) ∧ Below wb.heap.size wb wr) (fun _ i _ => nd - (intOf i).toNat)
            case atStart => exact ⟨0, X, Nat.zero_le _, rfl, by show X = _; rw [List.take_zero, row_none, List.append_nil], OWO.out, HBO.out⟩
            case round =>
              obtain ⟨j, Y, hj, rfl, HY, hown, hb⟩ := hrel
              have OWN : Hid (wr.ownsRow wb.heap.size 37 26 u15 Y.length (ccells Y)) := hown
              have HBI : Hid (Below wb.heap.size wb wr) := hb
              have HYL : Hid (Y.length ≤ 10000) := by
                show _ ≤ _
                rw [HY.out, HX.out, List.length_append, rows_len, row_len, List.length_take, List.length_take]
                have h1 := HSL.out
                have h2 := HDL.out
                have := Nat.mul_le_mul (show min k S.length ≤ 30 by omega) h2
                omega
              clear hown hb
              by_cases hjl : j < nd
              · have hjl' : (j : Int) < (nd : Int) := by omega
                obtain ⟨g2, off2, cur2, t2, fr2, U2, N2, rfl, hg2, hc2, hDj, hU2, hN2⟩ := DB.out.at j hjl
                have hUl2 := hU2.1
                have hNl2 := hN2.1
                have hg1' : wr.heap[g]? = some (.cells cur t fr) := (HBI.out.block g (Array.getElem?_eq_some_iff.1 HG.out).1).trans HG.out
                have c13 : wr.heap[g13]? = some (.cells (cv CV CM) 37 (0, 0)) := (HBI.out.block _ (Array.getElem?_eq_some_iff.1 C8.out).1).trans C8.out
                have HG2 : Hid (wr.heap[g2]? = some (.cells cur2 t2 fr2)) := (HBI.out.block g2 (Array.getElem?_eq_some_iff.1 hg2).1).trans hg2
                have HC2 : Hid (∀ i, i < 26 → cur2[off2 + j * 26 + i]? = (cv U2 N2)[i]?) := hc2
                have HDJ : Hid (D[j]? = some (U2, N2)) := hDj
                obtain ⟨⟨HV, HM⟩, hHM⟩ : ∃ c, c = met (met (CV, CM) (U, N)) (U2, N2) := ⟨_, rfl⟩
                have hHl : HV.length = 13 ∧ HM.length = 13 := by have := met_byt (met (CV, CM) (U, N)) (U2, N2); rw [← hHM] at this; exact ⟨this.1.1, this.2.1⟩
                have hHV := hHl.1
                have hHMl := hHl.2
                have HHM : Hid ((HV, HM) = met (met (CV, CM) (U, N)) (U2, N2)) := hHM
                have D2 : Hid (∀ W, Calls Tryz.prog 38 #[.agg (cv GV GM), .agg (cv U2 N2)] W fun e w' => e = .returned (.tuple #[.agg (cv HV HM), .bool true]) ∧ Below W.heap.size W w') := fun W => by
                  have := MD.out _ HMS.out _ (List.mem_of_getElem? hDj) W
                  rw [← hHM, ← HGM.out] at this
                  exact this
                clear hg2 hc2 hDj hU2 hN2 hHM hHl
                go_wp2_with fail
                have ne1 := Later.ne wr
                refine region_cut (fun a a' w' => ∃ gq y94 y95 y96 y97 y98 y99 y100 y101 y102, a' = (((((((((((a.put (some 18) (.pointer (some ⟨gq, 0, none⟩))).put (some 19) (.bool true)).put (some 94) y94).put (some 95) y95).put (some 96) y96).put (some 97) y97).put (some 98) y98).put (some 99) y99).put (some 100) y100).put (some 101) y101).put (some 102) y102) ∧ wr.heap.size ≤ gq ∧ w'.heap[gq]? = some (.cells (cv GV GM) 37 (0, 0)) ∧ Below wr.heap.size wr w') ?_ ?_
                · refine region_begin 12 rfl (by kernel_rfl) ?_
                  refine region_reads 0 5 7 rfl (by kernel_rfl) (by kernel_rfl) (by kernel_rfl) (by intro d v c a w h; exact absurd h.1 (by simp)) ⟨⟨wr.drew, (Below.refl _ _).drew⟩, rfl⟩ ?_
                  simp only [List.drop_zero, List.take_succ_cons, List.take_zero]
                  refine qlC rfl _ rfl g13 rfl CV CM c13 hCV hCM ?_
                  simp only [Act.put, List.setIfInBounds_toArray, List.set_cons_succ, List.set_cons_zero]
                  go_big_quiet_step (fail)
                  go_big_quiet_step (fail)
                  go_big_quiet_step (fail)
                  refine qlSl rfl _ rfl g (off + k * 26) rfl cur t fr U N hUl hNl hg1' HC.out ?_
                  simp only [Act.put, List.setIfInBounds_toArray, List.set_cons_succ, List.set_cons_zero]
                  refine wpQuiet_nil ?_
                  refine wpAnyH_all (rs := [5, 9]) (by kernel_rfl) (by decide) ?_
                  intro i hi
                  simp only [List.mem_cons, List.not_mem_nil, or_false] at hi
                  rcases hi with rfl | rfl
                  · refine wpOp_call rfl rfl 38 #[.tmp 95, .tmp 99] (by intro b w; have hf := Tryz.func38; simp [go_sem]) #[.agg (cv CV CM), .agg (cv U N)] rfl (fun v w' => v = .tuple #[.agg (cv GV GM), .bool true] ∧ Below wr.drew.heap.size wr.drew w') ((D1.out _).mono fun e w' h => ⟨_, h.1, rfl, h.2⟩) (some 100) rfl ?_
                    rintro v wz1 ⟨rfl, hz1⟩
                    have hy1 : Below wr.heap.size wr wz1 := (Below.refl wr.heap.size wr).drew.trans (hz1.mono (Below.refl wr.heap.size wr).drew.size)
                    refine ⟨⟨⟨wz1, hy1⟩, rfl⟩, ?_⟩
                    simp only [Act.put, List.setIfInBounds_toArray, List.set_cons_succ, List.set_cons_zero]
                    refine region_reads 6 3 3 rfl (by kernel_rfl) (by kernel_rfl) (by kernel_rfl) (by intro d v c a w h; exact absurd h.1 (by simp)) ⟨⟨wz1, hy1⟩, rfl⟩ ?_
                    simp only [List.drop_succ_cons, List.drop_zero, List.take_succ_cons, List.take_zero]
                    repeat go_big_quiet_step (fail)
                    refine wpQuiet_nil ?_
                    refine wpAnyH_all (rs := [9]) (by kernel_rfl) (by decide) ?_
                    intro i hi
                    obtain rfl := List.mem_singleton.1 hi
                    refine wpOp_allocC rfl rfl rfl (some 18) rfl ?_
                    have hy2 : Below wr.heap.size wr (wz1.alloc (.cells zeroC 37)) := hy1.alloc hy1.size _
                    have hx2 : (wz1.alloc (.cells zeroC 37)).heap[wz1.heap.size]? = some (.cells zeroC 37 (0, 0)) := heap_new _ _ _ rfl
                    refine ⟨⟨⟨_, hy2⟩, rfl⟩, ?_⟩
                    simp only [Act.put, List.setIfInBounds_toArray, List.set_cons_succ, List.set_cons_zero]
                    refine wpAnyH_all (rs := [10]) (by kernel_rfl) (by decide) ?_
                    intro i hi
                    obtain rfl := List.mem_singleton.1 hi
                    have hbl : wr.heap.size ≤ wz1.heap.size := by have := hy1.size; exact this
                    refine wpOp_storeC rfl rfl _ _ rfl (wz1.heap.size) GV GM rfl rfl _ hx2 rfl hGV hGMl none rfl ?_
                    refine ⟨⟨⟨_, below_setRow hy2 hbl _⟩, rfl⟩, ?_⟩
                    refine wpAnyH_all (rs := [11]) (by kernel_rfl) (by decide) ?_
                    intro i hi
                    obtain rfl := List.mem_singleton.1 hi
                    refine wpOp_assign rfl rfl _ rfl (.bool true) rfl (some 19) rfl ?_
                    refine ⟨⟨⟨_, below_setRow hy2 hbl _⟩, rfl⟩, ?_⟩
                    refine wpAnyH_done (by kernel_rfl) ?_ _
                    exact ⟨rfl, wz1.heap.size, _, _, _, _, _, _, _, _, _, rfl, hbl, setRow_heap _ _ _ _ _ _ hx2, below_setRow hy2 hbl _⟩
                  · refine wpOp_allocC rfl rfl rfl (some 18) rfl ?_
                    have hy3 : Below wr.heap.size wr (wr.drew.alloc (.cells zeroC 37)) := (Below.refl wr.heap.size wr).drew.alloc (Below.refl wr.heap.size wr).drew.size _
                    have hx3 : (wr.drew.alloc (.cells zeroC 37)).heap[wr.drew.heap.size]? = some (.cells zeroC 37 (0, 0)) := heap_new _ _ _ rfl
                    refine ⟨⟨⟨_, hy3⟩, rfl⟩, ?_⟩
                    simp only [Act.put, List.setIfInBounds_toArray, List.set_cons_succ, List.set_cons_zero]
                    refine wpAnyH_all (rs := [5]) (by kernel_rfl) (by decide) ?_
                    intro i hi
                    obtain rfl := List.mem_singleton.1 hi
                    refine wpOp_call rfl rfl 38 #[.tmp 95, .tmp 99] (by intro b w; have hf := Tryz.func38; simp [go_sem]) #[.agg (cv CV CM), .agg (cv U N)] rfl (fun v w' => v = .tuple #[.agg (cv GV GM), .bool true] ∧ Below (wr.drew.alloc (.cells zeroC 37)).heap.size (wr.drew.alloc (.cells zeroC 37)) w') ((D1.out _).mono fun e w' h => ⟨_, h.1, rfl, h.2⟩) (some 100) rfl ?_
                    rintro v wz4 ⟨rfl, hz4⟩
                    have hy4 : Below wr.heap.size wr wz4 := hy3.trans (hz4.mono hy3.size)
                    have hx4 : wz4.heap[wr.drew.heap.size]? = some (.cells zeroC 37 (0, 0)) := (hz4.block _ (Array.getElem?_eq_some_iff.1 hx3).1).trans hx3
                    refine ⟨⟨⟨wz4, hy4⟩, rfl⟩, ?_⟩
                    simp only [Act.put, List.setIfInBounds_toArray, List.set_cons_succ, List.set_cons_zero]
                    refine region_reads 6 3 2 rfl (by kernel_rfl) (by kernel_rfl) (by kernel_rfl) (by intro d v c a w h; exact absurd h.1 (by simp)) ⟨⟨wz4, hy4⟩, rfl⟩ ?_
                    simp only [List.drop_succ_cons, List.drop_zero, List.take_succ_cons, List.take_zero]
                    repeat go_big_quiet_step (fail)
                    refine wpQuiet_nil ?_
                    refine wpAnyH_all (rs := [10]) (by kernel_rfl) (by decide) ?_
                    intro i hi
                    obtain rfl := List.mem_singleton.1 hi
                    have hbl : wr.heap.size ≤ wr.drew.heap.size := Nat.le_refl _
                    refine wpOp_storeC rfl rfl _ _ rfl (wr.drew.heap.size) GV GM rfl rfl _ hx4 rfl hGV hGMl none rfl ?_
                    refine ⟨⟨⟨_, below_setRow hy4 hbl _⟩, rfl⟩, ?_⟩
                    refine wpAnyH_all (rs := [11]) (by kernel_rfl) (by decide) ?_
                    intro i hi
                    obtain rfl := List.mem_singleton.1 hi
                    refine wpOp_assign rfl rfl _ rfl (.bool true) rfl (some 19) rfl ?_
                    refine ⟨⟨⟨_, below_setRow hy4 hbl _⟩, rfl⟩, ?_⟩
                    refine wpAnyH_done (by kernel_rfl) ?_ _
                    exact ⟨rfl, wr.drew.heap.size, _, _, _, _, _, _, _, _, _, rfl, hbl, setRow_heap _ _ _ _ _ _ hx4, below_setRow hy4 hbl _⟩
                · rintro a' w' ⟨gq, y94, y95, y96, y97, y98, y99, y100, y101, y102, rfl, hgq, hcq, hbq⟩
                  simp only [Act.put, List.setIfInBounds_toArray, List.set_cons_succ, List.set_cons_zero]
                  have OW2 : Hid (w'.ownsRow wb.heap.size 37 26 u15 Y.length (ccells Y)) := own_below OWN.out hbq
                  have NE2 : Hid (u15.ownBlock ≠ some gq) := own_ne OWN.out hgq
                  have hg2' : w'.heap[g2]? = some (.cells cur2 t2 fr2) := (hbq.block _ (Array.getElem?_eq_some_iff.1 HG2.out).1).trans HG2.out
                  have c18 : w'.heap[gq]? = some (.cells (cv GV GM) 37 (0, 0)) := hcq
                  have B5 : Hid (Below wb.heap.size wb w') := HBI.out.trans (hbq.mono HBI.out.size)
                  have GQ : Hid (wb.heap.size ≤ gq) := Nat.le_trans HBI.out.size hgq
                  clear hg1' c13 HG2 D1 ne1 OWN HBI hcq hbq hgq
                  obtain ⟨w5, hw5⟩ : ∃ w5, w5 = w' := ⟨_, rfl⟩
                  rw [← hw5] at OW2 hg2' c18 B5 ⊢
                  clear hw5
                  go_wp2_with fail
                  have ne1 := Later.ne w5
                  refine wp_region_head 6 4 #[true, true, true, true, true, true, false, false, false, false] (by kernel_rfl) (by kernel_rfl) (by kernel_rfl) (by kernel_rfl) (by kernel_rfl) (by kernel_rfl) rfl ?_
                  simp only [List.take_succ_cons, List.take_zero]
                  refine qlC rfl _ rfl gq rfl GV GM c18 hGV hGMl ?_
                  simp only [Act.put, List.setIfInBounds_toArray, List.set_cons_succ, List.set_cons_zero]
                  go_big_quiet_step (fail)
                  go_big_quiet_step (fail)
                  go_big_quiet_step (fail)
                  refine qlSl rfl _ rfl g2 (off2 + j * 26) rfl cur2 t2 fr2 U2 N2 hUl2 hNl2 hg2' HC2.out ?_
                  simp only [Act.put, List.setIfInBounds_toArray, List.set_cons_succ, List.set_cons_zero]
                  go_big_quiet_want; go_big_quiet_op
                  refine ⟨_, fun u => Calls.later_of (D2.out u.world), ?_⟩
                  go_big_quiet_on
                  refine wpQuiet_nil ?_
                  rintro w' ⟨u, rfl⟩
                  have k2 := later_block c18 _ ⟨u, rfl⟩
                  have OW3 : Hid ((u.world.setRow gq (cv HV HM)).ownsRow wb.heap.size 37 26 u15 Y.length (ccells Y)) := own_setRow_ne (own_below OW2.out u.below) gq NE2.out _
                  have B6 : Hid (Below wb.heap.size wb (u.world.setRow gq (cv HV HM))) := below_setRow (B5.out.trans (u.below.mono B5.out.size)) GQ.out _
                  have C6 : Hid ((u.world.setRow gq (cv HV HM)).heap[gq]? = some (.cells (cv HV HM) 37 (0, 0))) := setRow_heap _ _ _ _ _ _ k2
                  clear ne1 D2 hg2' c18 OW2 B5
                  refine any_fix6 (v := .tuple #[.agg (cv HV HM), .bool true]) (v0 := .agg (cv HV HM)) (v1 := .bool true) (w' := u.world.setRow gq (cv HV HM)) (by kernel_rfl) (by kernel_rfl) (by kernel_rfl) (by kernel_rfl) (by kernel_rfl) (by kernel_rfl) (by kernel_rfl) rfl rfl rfl rfl rfl (run_move _ _ _ _ _ _ rfl rfl)
                    (run_extract _ _ _ _ _ _ _ _ rfl rfl rfl) (run_extract _ _ _ _ _ _ _ _ rfl rfl rfl) (run_extract _ _ _ _ _ _ _ _ rfl rfl rfl) (run_extract _ _ _ _ _ _ _ _ rfl rfl rfl) (run_extract _ _ _ _ _ _ _ _ rfl rfl rfl)
                    (run_storeC _ _ _ _ _ rfl gq _ _ rfl rfl _ k2 (cv_size _ _ hGV hGMl) hHV hHMl) (run_storeC _ _ _ _ _ rfl gq _ _ rfl rfl _ k2 (cv_size _ _ hGV hGMl) hHV hHMl) rfl ?_
                  simp only [Act.put, List.setIfInBounds_toArray, List.set_cons_succ, List.set_cons_zero]
                  obtain ⟨w6, hw6⟩ : ∃ w6, w6 = u.world.setRow gq (cv HV HM) := ⟨_, rfl⟩
                  rw [← hw6] at OW3 B6 C6 ⊢
                  clear hw6 k2
                  go_wp2_with (first
                    | (refine wl_loadC rfl _ rfl gq rfl HV HM C6.out hHV hHMl ?_)
                    | (refine wl_build1 rfl _ rfl HV HM hHV hHMl rfl ?_)
                    | (at_builtin; refine of_stopped ?_))
                  unfold Stopped
                  have OW4 : Hid ((w6.alloc (.cells (cv HV HM) 37)).ownsRow wb.heap.size 37 26 u15 Y.length (ccells Y)) := OW3.out.alloc _
                  have B7 : Hid (Below wb.heap.size wb (w6.alloc (.cells (cv HV HM) 37))) := B6.out.alloc B6.out.size _
                  refine wl_append1 rfl _ _ rfl wb.heap.size u15 Y HV HM hHV hHMl rfl OW4.out w6.heap.size 1 rfl (heap_new _ _ _ rfl) (by have := HYL.out; omega) (by have := B6.out.size; simp; omega) ?_
                  intro v' w9 hown9 hgr9 _
                  have O9 : Hid (w9.ownsRow wb.heap.size 37 26 v' (Y ++ [(HV, HM)]).length (ccells (Y ++ [(HV, HM)]))) := hown9
                  have B9 : Hid (Below wb.heap.size wb w9) := B7.out.grown hgr9 B7.out.size (fun q hq => (OW4.out.lt q hq).1)
                  clear hown9 hgr9
                  simp only [Act.put, List.setIfInBounds_toArray, List.set_cons_succ, List.set_cons_zero]
                  go_wp2_with fail
                  go_roundw
                  case rel =>
                    refine ⟨j + 1, Y ++ [(HV, HM)], by omega, by go_num, ?_, O9.out, B9.out⟩
                    show Y ++ [(HV, HM)] = _
                    rw [row_take HDJ.out, HY.out, HHM.out, List.append_assoc]
                  case measure => simp [intOf]; omega
              · have hjl' : ¬ (j : Int) < (nd : Int) := by omega
                go_wp2_with fail
                go_roundw
                case rel =>
                  refine ⟨k + 1, Y, by omega, by go_num, ?_, OWN.out, HBI.out⟩
                  show Y = _
                  rw [rows_take HSK.out, HY.out, HX.out, show D.take j = D from List.take_of_length_le (by have := HND.out; omega)]
                case measure => simp [intOf]; omega
          · have hlt' : ¬ (k : Int) < (ns : Int) := by omega
            have HXX : Hid (X = cubesT x) := by
              show X = _
              rw [HX.out, HCT.out, show S.take k = S from List.take_of_length_le (by have := HNS.out; omega)]
            go_wp2_with fail
            go_ret
            exact ⟨⟨_, rfl, by rw [← HXX.out]; exact own_base OWO.out BB.out.size⟩, BB.out.trans (HBO.out.mono BB.out.size)⟩
end Go.Proofs.YtnbklmmampdbfaaGreatDoor
namespace Go.Proofs.YtnbklmmampdbfaaGreatDoor
open Go Go.RowKit
set_option maxRecDepth 20000

set_option maxHeartbeats 4000000 in
theorem rcubes_dflt (x : Ent) (hd : x.dflt = true) (w : World) :
    Calls Tryz.prog 19 #[.agg (entV x)] w fun e w' => (∃ v, e = .returned v ∧ w'.ownsRow w.heap.size 37 26 v (cubesT x).length (ccells (cubesT x))) ∧ Below w.heap.size w w' := by
  have hZl := Z_byt.1
  have KN : Hid (((w.alloc (.cells (entV x) 35)).alloc (.cells (cv Z Z) 37)).heap[w.heap.size]? = some (.cells (entV x) 35 (0, 0))) := heap_past _ _ _ _ (heap_new _ _ _ rfl)
  have KZ : Hid (((w.alloc (.cells (entV x) 35)).alloc (.cells (cv Z Z) 37)).heap[w.heap.size + 1]? = some (.cells (cv Z Z) 37 (0, 0))) := heap_new _ _ _ (by simp)
  have B0 : Hid (Below w.heap.size w ((w.alloc (.cells (entV x) 35)).alloc (.cells (cv Z Z) 37))) := ((Below.refl _ _).alloc (Nat.le_refl _) _).alloc (by simp) _
  have HC : Hid (cubesT x = [allC]) := by show _ = _; unfold cubesT; rw [if_pos hd]
  have f0 := (ent_g KN.out).1
  rw [hd] at f0
  go_enter Tryz.func19, Tryz.ntmps19
  go_wp2_with (first
    | (refine wl_storeC rfl _ _ rfl (w.heap.size + 1) Z Z rfl (by rw [← zeroC_eq]; rfl) _ (heap_new _ _ _ (by simp)) rfl hZl hZl _ (setRow_new _ _ _ _ _ (by simp)) ?_)
    | (refine wl_loadC rfl _ rfl (w.heap.size + 1) rfl Z Z KZ.out hZl hZl ?_)
    | (refine wl_build1 rfl _ rfl Z Z hZl hZl rfl ?_))
  go_ret
  refine ⟨⟨_, rfl, ?_⟩, B0.out.alloc B0.out.size _⟩
  rw [HC.out, show allC = (Z, Z) from rfl]
  have := own_base (own_one8 ((w.alloc (.cells (entV x) 35)).alloc (.cells (cv Z Z) 37)) Z Z Z_byt Z_byt) B0.out.size
  simpa using this
/-- The reference's cubes of an entry that has any. -/
theorem rcubes_all (x : Ent) (hx : ent32 x) (hm : manyN x ≠ 0) (w : World) :
    Calls Tryz.prog 19 #[.agg (entV x)] w fun e w' => (∃ v, e = .returned v ∧ w'.ownsRow w.heap.size 37 26 v (cubesT x).length (ccells (cubesT x))) ∧ Below w.heap.size w w' := by
  cases hd : x.dflt with
  | true => exact rcubes_dflt x hd w
  | false =>
    refine rcubes_any x hx hd ?_ w
    have h := cubes_len x
    rw [hd, if_neg (by decide)] at h
    by_cases hc : canB x = true
    · unfold canB at hc
      simp only [Bool.and_eq_true, decide_eq_true_eq] at hc
      exact hc.2
    · rw [if_neg hc] at h
      exact absurd h hm
end Go.Proofs.YtnbklmmampdbfaaGreatDoor
namespace Go.Proofs.YtnbklmmampdbfaaGreatDoor
open Go Go.RowKit
set_option maxRecDepth 20000

/-- As InvR, with a word on the world that turns when operation m has come up. -/
structure InvM (ops : Array Oper) (V : Nat → Value → World → Prop) (D : List Nat) (I : Bool → World → Prop) (m : Nat) (a0 : Act) (listed : Array Bool) (a : Act) (w : World) : Prop where
  wld : I (listed.getD m false) w
  size : a.tmps.size = a0.tmps.size
  defers : a.defers = a0.defers
  other : ∀ d, d ∉ D → a.eval (.tmp d) = a0.eval (.tmp d)
  has : ∀ j o d, ops[j]? = some o → o.dst = some d → listed.getD j false = true → V j (a.eval (.tmp d)) w
/-- What an operation finds when it comes up. -/
structure AtM (ops : Array Oper) (V : Nat → Value → World → Prop) (D : List Nat) (I : Bool → World → Prop) (b : Bool) (a0 : Act) (o : Oper) (a : Act) (w : World) : Prop where
  wld : I b w
  size : a.tmps.size = a0.tmps.size
  defers : a.defers = a0.defers
  other : ∀ d, d ∉ D → a.eval (.tmp d) = a0.eval (.tmp d)
  has : ∀ e ∈ o.after, Region.binds .any e = true → ∀ oj d, ops[e.on]? = some oj → oj.dst = some d → V e.on (a.eval (.tmp d)) w
/-- A drawn region whose last operation waits for all others, one of which (m) may change what lies in memory, while all others make memory at most. -/
theorem region_mid {P : Program} {id : Nat} {Q : Exit → Act → World → Prop} {a0 : Act} {w0 : World} {lo : List Oper} (n m : Nat) (V : Nat → Value → World → Prop) (I : Bool → World → Prop) (D : List Nat) (hm : P.follows .mixedOrders = true) (hmn : m < n)
    (hn : lo.length = n + 1) (hD : (lo.filterMap (·.dst)) = D) (hnd : D.Nodup) (hsz : ∀ d ∈ D, d < a0.tmps.size) (hdag : (lo.zipIdx.all fun x => x.1.after.all fun e => decide (e.on < x.2)) = true)
    (hlast : (lo[n]?).map (fun o => (List.range n).all fun j => o.after.any fun e => e.on == j && Region.binds .any e) = some true)
    (hV : ∀ j v w w', V j v w → Below w.heap.size w w' → V j v w') (hI : ∀ b w w', I b w → Below w.heap.size w w' → I b w') (hI0 : I false w0.drew)
    (hop : ∀ i o, lo[i]? = some o → i < n → i ≠ m → ∀ b a w, AtM lo.toArray V D I b a0 o a w → wpOp P lo.toArray Q i (fun a' w' => ∃ v, a' = a.put o.dst v ∧ Below w.heap.size w w' ∧ ∀ d, o.dst = some d → V i v w') a w)
    (hmid : ∀ o, lo[m]? = some o → ∀ a w, AtM lo.toArray V D I false a0 o a w → wpOp P lo.toArray Q m (fun a' w' => ∃ v, a' = a.put o.dst v ∧ I true w' ∧ (∀ j u, j ≠ m → V j u w → V j u w') ∧ ∀ d, o.dst = some d → V m v w') a w)
    (hend : ∀ a w, I true w → a.tmps.size = a0.tmps.size → a.defers = a0.defers → (∀ d, d ∉ D → a.eval (.tmp d) = a0.eval (.tmp d)) → (∀ j o d, j < n → lo[j]? = some o → o.dst = some d → V j (a.eval (.tmp d)) w) → wpOp P lo.toArray Q n (fun a' w' => Q .normal a' w') a w) : (Code.region id lo.toArray true).wp P Q a0 w0 := by
  refine wp_region_any hm ?_
  have hdag' : ∀ (i : Nat) (o : Oper), lo.toArray[i]? = some o → ∀ e ∈ o.after, e.on < i := fun i o ho e he => by
    rw [List.all_eq_true] at hdag
    have ho' : lo[i]? = some o := by simpa using ho
    obtain ⟨hi, rfl⟩ := List.getElem?_eq_some_iff.1 ho'
    have := hdag (lo[i], i) (List.mem_zipIdx_iff_getElem?.2 (List.getElem?_eq_getElem hi))
    simp only [Array.all_eq_true_iff_forall_mem] at this
    simpa using this e he
  have hnd' := hnd
  have hDa : (lo.toArray.toList.filterMap (·.dst)) = D := by simpa using hD
  have inD : ∀ (i : Nat) (o : Oper) (d : Nat), lo.toArray[i]? = some o → o.dst = some d → d ∈ D := fun i o d ho hd => by
    rw [← hD, List.mem_filterMap]
    exact ⟨o, List.mem_of_getElem? (by simpa using ho), hd⟩
  have key : ∀ (f : Nat) (listed : Array Bool) (a : Act) (w : World), listed.toList.count false = f → listed.size = n + 1 → listed.getD n true = false → InvM lo.toArray V D I m a0 listed a w → wpAny P .any lo.toArray Q f listed a w := by
    intro f
    induction f with
    | zero =>
      intro listed a w hc hs hln inv
      exfalso
      have : false ∈ listed.toList := by
        rw [Array.getD_eq_getD_getElem?, Array.getElem?_eq_getElem (by omega)] at hln
        have h3 : listed[n]'(by omega) = false := by simpa using hln
        rw [← h3]; exact Array.mem_toList_iff.2 (Array.getElem_mem (by omega))
      have := List.count_pos_iff.2 this
      omega
    | succ f ih =>
      intro listed a w hc hs hln inv
      refine ⟨fun hr => absurd hr (ready_some (by simpa [hn] using hs) hdag' n hln), fun i hi => ?_⟩
      obtain ⟨hiu, o, ho, hdeps⟩ := mem_ready.1 hi
      have hil : i < listed.size := by
        rw [Array.getD_eq_getD_getElem?] at hiu
        rcases Nat.lt_or_ge i listed.size with h1 | h1
        · exact h1
        · rw [Array.getElem?_eq_none h1] at hiu; simp at hiu
      have hcnt := falses_set listed i hiu
      by_cases hin : i = n
      · subst hin
        have hol : lo[i]? = some o := by simpa using ho
        have hall : ∀ j, j < i → listed.getD j false = true := fun j hj => by
          rw [hol] at hlast
          simp only [Option.map_some, Option.some.injEq, List.all_eq_true, List.mem_range] at hlast
          have := hlast j hj
          rw [Array.any_eq_true'] at this
          obtain ⟨e, he, hb⟩ := this
          simp only [Bool.and_eq_true, beq_iff_eq] at hb
          rw [← hb.1]
          exact hdeps e he hb.2
        refine wpOp_mono (fun a' w' hQ => ?_) (hend a w (by have := inv.wld; rwa [hall m hmn] at this) inv.size inv.defers inv.other (fun j oj d hj hoj hd => inv.has j oj d (by simpa using hoj) hd (hall j hj)))
        have h0 : (listed.setIfInBounds i true).toList.count false = 0 := by
          rw [List.count_eq_zero]
          intro hmem
          obtain ⟨j, hj, hje⟩ := List.mem_iff_getElem.1 hmem
          rw [Array.getElem_toList] at hje
          have hj' : j < listed.size := by simpa using hj
          by_cases hji : i = j
          · subst hji
            rw [Array.getElem_setIfInBounds_self] at hje
            simp at hje
          · rw [Array.getElem_setIfInBounds_ne hj' hji] at hje
            have := hall j (by omega)
            rw [Array.getD_eq_getD_getElem?, Array.getElem?_eq_getElem hj'] at this
            simp [hje] at this
        obtain rfl : f = 0 := by omega
        exact ⟨ready_none h0, hQ⟩
      · have hlt : i < n := by omega
        have hol : lo[i]? = some o := by simpa using ho
        by_cases him : i = m
        · subst him
          have hno : listed.getD i false = false := getD_tf hiu
          refine wpOp_mono (fun a' w' hK => ?_) (hmid o hol a w ⟨by have := inv.wld; rwa [hno] at this, inv.size, inv.defers, inv.other, fun e he hb oj d hoj hd => inv.has e.on oj d hoj hd (hdeps e he hb)⟩)
          obtain ⟨v, rfl, hIw, hst, hv⟩ := hK
          have hset : (listed.setIfInBounds i true).getD i false = true := by
            rw [Array.getD_eq_getD_getElem?, Array.getElem?_setIfInBounds_self_of_lt hil]; rfl
          refine ih _ _ _ (by omega) (by simpa using hs) (by rw [getD_set_ne' hin]; exact hln) ⟨by rw [hset]; exact hIw, by rw [size_put]; exact inv.size, ?_, fun d hd => ?_, fun j oj d hoj hd hlj => ?_⟩
          · have : (a.put o.dst v).defers = a.defers := by cases o.dst <;> rfl
            rw [this]; exact inv.defers
          · cases hdo : o.dst with
            | none => exact inv.other d hd
            | some k =>
              rw [eval_put _ _ _ _ (by rw [inv.size]; exact hsz k (inD i o k ho hdo)), if_neg (fun h : d = k => hd (by rw [h]; exact inD i o k ho hdo))]
              exact inv.other d hd
          · by_cases hji : j = i
            · subst hji
              obtain rfl : oj = o := Option.some.inj (hoj.symm.trans ho)
              rw [hd, eval_put _ _ _ _ (by rw [inv.size]; exact hsz d (inD j oj d ho hd)), if_pos rfl]
              exact hv d hd
            · rw [getD_set_ne' (Ne.symm hji)] at hlj
              have h1 := hst _ _ hji (inv.has j oj d hoj hd hlj)
              cases hdo : o.dst with
              | none => exact h1
              | some k =>
                have hkd : ¬ d = k := fun h => hji (dst_apart hDa hnd' hoj ho hd (by rw [h]; exact hdo))
                rw [eval_put _ _ _ _ (by rw [inv.size]; exact hsz k (inD i o k ho hdo)), if_neg hkd]
                exact h1
        · refine wpOp_mono (fun a' w' hK => ?_) (hop i o hol hlt him (listed.getD m false) a w ⟨inv.wld, inv.size, inv.defers, inv.other, fun e he hb oj d hoj hd => inv.has e.on oj d hoj hd (hdeps e he hb)⟩)
          obtain ⟨v, rfl, hbw, hv⟩ := hK
          refine ih _ _ _ (by omega) (by simpa using hs) (by rw [getD_set_ne' hin]; exact hln) ⟨by rw [getD_set_ne' him]; exact hI _ _ _ inv.wld hbw, by rw [size_put]; exact inv.size, ?_, fun d hd => ?_, fun j oj d hoj hd hlj => ?_⟩
          · have : (a.put o.dst v).defers = a.defers := by cases o.dst <;> rfl
            rw [this]; exact inv.defers
          · cases hdo : o.dst with
            | none => exact inv.other d hd
            | some k =>
              rw [eval_put _ _ _ _ (by rw [inv.size]; exact hsz k (inD i o k ho hdo)), if_neg (fun h : d = k => hd (by rw [h]; exact inD i o k ho hdo))]
              exact inv.other d hd
          · by_cases hji : j = i
            · subst hji
              obtain rfl : oj = o := Option.some.inj (hoj.symm.trans ho)
              rw [hd, eval_put _ _ _ _ (by rw [inv.size]; exact hsz d (inD j oj d ho hd)), if_pos rfl]
              exact hv d hd
            · rw [getD_set_ne' (Ne.symm hji)] at hlj
              have h1 := (fun h => hV _ _ _ _ h hbw) (inv.has j oj d hoj hd hlj)
              cases hdo : o.dst with
              | none => exact h1
              | some k =>
                have hkd : ¬ d = k := fun h => hji (dst_apart hDa hnd' hoj ho hd (by rw [h]; exact hdo))
                rw [eval_put _ _ _ _ (by rw [inv.size]; exact hsz k (inD i o k ho hdo)), if_neg hkd]
                exact h1
  have hrep : (Array.replicate lo.toArray.size false).toList.count false = lo.toArray.size := by simp
  refine key _ _ _ _ hrep (by simp [hn]) ?_ ⟨?_, rfl, rfl, fun _ _ => rfl, fun j o d _ _ hl => ?_⟩
  · rw [Array.getD_eq_getD_getElem?, Array.getElem?_eq_getElem (by simp [hn])]
    simp
  · rw [Array.getD_eq_getD_getElem?, Array.getElem?_eq_getElem (by simp [hn]; omega)]
    simpa using hI0
  · exfalso
    rw [Array.getD_eq_getD_getElem?] at hl
    rcases Nat.lt_or_ge j (Array.replicate lo.toArray.size false).size with h1 | h1
    · rw [Array.getElem?_eq_getElem h1] at hl; simp at hl
    · rw [Array.getElem?_eq_none h1] at hl; simp at hl
end Go.Proofs.YtnbklmmampdbfaaGreatDoor
namespace Go.Proofs.YtnbklmmampdbfaaGreatDoor
open Go Go.RowKit
set_option maxRecDepth 20000

/-- A drawn region whose last operation waits for all others, one of which (m) may change what lies in memory, while all others make memory at most. -/
theorem region_mid2 {P : Program} {id : Nat} {Q : Exit → Act → World → Prop} {a0 : Act} {w0 : World} {lo : List Oper} (n m : Nat) (V : Nat → Value → World → Prop) (I : Bool → World → Prop) (D : List Nat) (hm : P.follows .mixedOrders = true) (hmn : m < n)
    (hn : lo.length = n + 1) (hD : (lo.filterMap (·.dst)) = D) (D0 : List Nat) (hD0 : ((lo.take n).filterMap (·.dst)) = D0) (hnd : D.Nodup) (hsz : ∀ d ∈ D, d < a0.tmps.size) (hdag : (lo.zipIdx.all fun x => x.1.after.all fun e => decide (e.on < x.2)) = true)
    (hlast : (lo[n]?).map (fun o => (List.range n).all fun j => o.after.any fun e => e.on == j && Region.binds .any e) = some true)
    (hV : ∀ j v w w', V j v w → Below w.heap.size w w' → V j v w') (hI : ∀ b w w', I b w → Below w.heap.size w w' → I b w') (hI0 : I false w0.drew)
    (hop : ∀ i o, lo[i]? = some o → i < n → i ≠ m → ∀ b a w, AtM lo.toArray V D0 I b a0 o a w → wpOp P lo.toArray Q i (fun a' w' => ∃ v, a' = a.put o.dst v ∧ Below w.heap.size w w' ∧ ∀ d, o.dst = some d → V i v w') a w)
    (hmid : ∀ o, lo[m]? = some o → ∀ a w, AtM lo.toArray V D0 I false a0 o a w → wpOp P lo.toArray Q m (fun a' w' => ∃ v, a' = a.put o.dst v ∧ I true w' ∧ (∀ j u, j ≠ m → V j u w → V j u w') ∧ ∀ d, o.dst = some d → V m v w') a w)
    (hend : ∀ a w, I true w → a.tmps.size = a0.tmps.size → a.defers = a0.defers → (∀ d, d ∉ D0 → a.eval (.tmp d) = a0.eval (.tmp d)) → (∀ j o d, j < n → lo[j]? = some o → o.dst = some d → V j (a.eval (.tmp d)) w) → wpOp P lo.toArray Q n (fun a' w' => Q .normal a' w') a w) : (Code.region id lo.toArray true).wp P Q a0 w0 := by
  refine wp_region_any hm ?_
  have hdag' : ∀ (i : Nat) (o : Oper), lo.toArray[i]? = some o → ∀ e ∈ o.after, e.on < i := fun i o ho e he => by
    rw [List.all_eq_true] at hdag
    have ho' : lo[i]? = some o := by simpa using ho
    obtain ⟨hi, rfl⟩ := List.getElem?_eq_some_iff.1 ho'
    have := hdag (lo[i], i) (List.mem_zipIdx_iff_getElem?.2 (List.getElem?_eq_getElem hi))
    simp only [Array.all_eq_true_iff_forall_mem] at this
    simpa using this e he
  have hnd' := hnd
  have hDa : (lo.toArray.toList.filterMap (·.dst)) = D := by simpa using hD
  have inD : ∀ (i : Nat) (o : Oper) (d : Nat), lo.toArray[i]? = some o → o.dst = some d → d ∈ D := fun i o d ho hd => by
    rw [← hD, List.mem_filterMap]
    exact ⟨o, List.mem_of_getElem? (by simpa using ho), hd⟩
  have inD0 : ∀ (i : Nat) (o : Oper) (d : Nat), i < n → lo.toArray[i]? = some o → o.dst = some d → d ∈ D0 := fun i o d hi ho hd => by
    rw [← hD0, List.mem_filterMap]
    refine ⟨o, List.mem_of_getElem? (i := i) ?_, hd⟩
    rw [List.getElem?_take_of_lt hi]
    simpa using ho
  have key : ∀ (f : Nat) (listed : Array Bool) (a : Act) (w : World), listed.toList.count false = f → listed.size = n + 1 → listed.getD n true = false → InvM lo.toArray V D0 I m a0 listed a w → wpAny P .any lo.toArray Q f listed a w := by
    intro f
    induction f with
    | zero =>
      intro listed a w hc hs hln inv
      exfalso
      have : false ∈ listed.toList := by
        rw [Array.getD_eq_getD_getElem?, Array.getElem?_eq_getElem (by omega)] at hln
        have h3 : listed[n]'(by omega) = false := by simpa using hln
        rw [← h3]; exact Array.mem_toList_iff.2 (Array.getElem_mem (by omega))
      have := List.count_pos_iff.2 this
      omega
    | succ f ih =>
      intro listed a w hc hs hln inv
      refine ⟨fun hr => absurd hr (ready_some (by simpa [hn] using hs) hdag' n hln), fun i hi => ?_⟩
      obtain ⟨hiu, o, ho, hdeps⟩ := mem_ready.1 hi
      have hil : i < listed.size := by
        rw [Array.getD_eq_getD_getElem?] at hiu
        rcases Nat.lt_or_ge i listed.size with h1 | h1
        · exact h1
        · rw [Array.getElem?_eq_none h1] at hiu; simp at hiu
      have hcnt := falses_set listed i hiu
      by_cases hin : i = n
      · subst hin
        have hol : lo[i]? = some o := by simpa using ho
        have hall : ∀ j, j < i → listed.getD j false = true := fun j hj => by
          rw [hol] at hlast
          simp only [Option.map_some, Option.some.injEq, List.all_eq_true, List.mem_range] at hlast
          have := hlast j hj
          rw [Array.any_eq_true'] at this
          obtain ⟨e, he, hb⟩ := this
          simp only [Bool.and_eq_true, beq_iff_eq] at hb
          rw [← hb.1]
          exact hdeps e he hb.2
        refine wpOp_mono (fun a' w' hQ => ?_) (hend a w (by have := inv.wld; rwa [hall m hmn] at this) inv.size inv.defers inv.other (fun j oj d hj hoj hd => inv.has j oj d (by simpa using hoj) hd (hall j hj)))
        have h0 : (listed.setIfInBounds i true).toList.count false = 0 := by
          rw [List.count_eq_zero]
          intro hmem
          obtain ⟨j, hj, hje⟩ := List.mem_iff_getElem.1 hmem
          rw [Array.getElem_toList] at hje
          have hj' : j < listed.size := by simpa using hj
          by_cases hji : i = j
          · subst hji
            rw [Array.getElem_setIfInBounds_self] at hje
            simp at hje
          · rw [Array.getElem_setIfInBounds_ne hj' hji] at hje
            have := hall j (by omega)
            rw [Array.getD_eq_getD_getElem?, Array.getElem?_eq_getElem hj'] at this
            simp [hje] at this
        obtain rfl : f = 0 := by omega
        exact ⟨ready_none h0, hQ⟩
      · have hlt : i < n := by omega
        have hol : lo[i]? = some o := by simpa using ho
        by_cases him : i = m
        · subst him
          have hno : listed.getD i false = false := getD_tf hiu
          refine wpOp_mono (fun a' w' hK => ?_) (hmid o hol a w ⟨by have := inv.wld; rwa [hno] at this, inv.size, inv.defers, inv.other, fun e he hb oj d hoj hd => inv.has e.on oj d hoj hd (hdeps e he hb)⟩)
          obtain ⟨v, rfl, hIw, hst, hv⟩ := hK
          have hset : (listed.setIfInBounds i true).getD i false = true := by
            rw [Array.getD_eq_getD_getElem?, Array.getElem?_setIfInBounds_self_of_lt hil]; rfl
          refine ih _ _ _ (by omega) (by simpa using hs) (by rw [getD_set_ne' hin]; exact hln) ⟨by rw [hset]; exact hIw, by rw [size_put]; exact inv.size, ?_, fun d hd => ?_, fun j oj d hoj hd hlj => ?_⟩
          · have : (a.put o.dst v).defers = a.defers := by cases o.dst <;> rfl
            rw [this]; exact inv.defers
          · cases hdo : o.dst with
            | none => exact inv.other d hd
            | some k =>
              rw [eval_put _ _ _ _ (by rw [inv.size]; exact hsz k (inD i o k ho hdo)), if_neg (fun h : d = k => hd (by rw [h]; exact inD0 i o k hlt ho hdo))]
              exact inv.other d hd
          · by_cases hji : j = i
            · subst hji
              obtain rfl : oj = o := Option.some.inj (hoj.symm.trans ho)
              rw [hd, eval_put _ _ _ _ (by rw [inv.size]; exact hsz d (inD j oj d ho hd)), if_pos rfl]
              exact hv d hd
            · rw [getD_set_ne' (Ne.symm hji)] at hlj
              have h1 := hst _ _ hji (inv.has j oj d hoj hd hlj)
              cases hdo : o.dst with
              | none => exact h1
              | some k =>
                have hkd : ¬ d = k := fun h => hji (dst_apart hDa hnd' hoj ho hd (by rw [h]; exact hdo))
                rw [eval_put _ _ _ _ (by rw [inv.size]; exact hsz k (inD i o k ho hdo)), if_neg hkd]
                exact h1
        · refine wpOp_mono (fun a' w' hK => ?_) (hop i o hol hlt him (listed.getD m false) a w ⟨inv.wld, inv.size, inv.defers, inv.other, fun e he hb oj d hoj hd => inv.has e.on oj d hoj hd (hdeps e he hb)⟩)
          obtain ⟨v, rfl, hbw, hv⟩ := hK
          refine ih _ _ _ (by omega) (by simpa using hs) (by rw [getD_set_ne' hin]; exact hln) ⟨by rw [getD_set_ne' him]; exact hI _ _ _ inv.wld hbw, by rw [size_put]; exact inv.size, ?_, fun d hd => ?_, fun j oj d hoj hd hlj => ?_⟩
          · have : (a.put o.dst v).defers = a.defers := by cases o.dst <;> rfl
            rw [this]; exact inv.defers
          · cases hdo : o.dst with
            | none => exact inv.other d hd
            | some k =>
              rw [eval_put _ _ _ _ (by rw [inv.size]; exact hsz k (inD i o k ho hdo)), if_neg (fun h : d = k => hd (by rw [h]; exact inD0 i o k hlt ho hdo))]
              exact inv.other d hd
          · by_cases hji : j = i
            · subst hji
              obtain rfl : oj = o := Option.some.inj (hoj.symm.trans ho)
              rw [hd, eval_put _ _ _ _ (by rw [inv.size]; exact hsz d (inD j oj d ho hd)), if_pos rfl]
              exact hv d hd
            · rw [getD_set_ne' (Ne.symm hji)] at hlj
              have h1 := (fun h => hV _ _ _ _ h hbw) (inv.has j oj d hoj hd hlj)
              cases hdo : o.dst with
              | none => exact h1
              | some k =>
                have hkd : ¬ d = k := fun h => hji (dst_apart hDa hnd' hoj ho hd (by rw [h]; exact hdo))
                rw [eval_put _ _ _ _ (by rw [inv.size]; exact hsz k (inD i o k ho hdo)), if_neg hkd]
                exact h1
  have hrep : (Array.replicate lo.toArray.size false).toList.count false = lo.toArray.size := by simp
  refine key _ _ _ _ hrep (by simp [hn]) ?_ ⟨?_, rfl, rfl, fun _ _ => rfl, fun j o d _ _ hl => ?_⟩
  · rw [Array.getD_eq_getD_getElem?, Array.getElem?_eq_getElem (by simp [hn])]
    simp
  · rw [Array.getD_eq_getD_getElem?, Array.getElem?_eq_getElem (by simp [hn]; omega)]
    simpa using hI0
  · exfalso
    rw [Array.getD_eq_getD_getElem?] at hl
    rcases Nat.lt_or_ge j (Array.replicate lo.toArray.size false).size with h1 | h1
    · rw [Array.getElem?_eq_getElem h1] at hl; simp at hl
    · rw [Array.getElem?_eq_none h1] at hl; simp at hl
end Go.Proofs.YtnbklmmampdbfaaGreatDoor
namespace Go.Proofs.YtnbklmmampdbfaaGreatDoor
open Go Go.RowKit
set_option maxRecDepth 20000

def rx_ops : List Oper := [
  { dst := some 50, op := .move (.tmp 7), type := 24, pos := "ref.go:84", after := #[], guard := none },
  { dst := some 51, op := .move (.tmp 7), type := 24, pos := "ref.go:84", after := #[], guard := none },
  { dst := some 52, op := .call { callee := .builtin .len, args := #[.tmp 51], argTypes := #[24] }, type := 3, pos := "ref.go:84", after := #[{ on := 1, ground := .data }], guard := none },
  { dst := some 53, op := .move (.tmp 9), type := 49, pos := "ref.go:84", after := #[], guard := none },
  { dst := some 54, op := .move (.tmp 10), type := 3, pos := "ref.go:84", after := #[], guard := none },
  { dst := some 55, op := .indexAddr 49 (.tmp 53) (.tmp 54), type := 0, pos := "ref.go:84", after := #[{ on := 3, ground := .data }, { on := 4, ground := .data }], guard := none },
  { dst := some 56, op := .load 37 (.tmp 55), type := 37, pos := "ref.go:84", after := #[{ on := 5, ground := .data }], guard := none },
  { dst := some 57, op := .move (.tmp 6), type := 22, pos := "ref.go:84", after := #[], guard := none },
  { dst := some 58, op := .move (.tmp 8), type := 3, pos := "ref.go:84", after := #[], guard := none },
  { dst := some 59, op := .indexAddr 22 (.tmp 57) (.tmp 58), type := 0, pos := "ref.go:84", after := #[{ on := 7, ground := .data }, { on := 8, ground := .data }], guard := none },
  { dst := some 60, op := .fieldAddr 35 (.tmp 59) 11, type := 0, pos := "ref.go:84", after := #[{ on := 9, ground := .data }], guard := none },
  { dst := some 61, op := .load 3 (.tmp 60), type := 3, pos := "ref.go:84", after := #[{ on := 10, ground := .data }], guard := none },
  { dst := some 62, op := .build 39 #[(0, .tmp 52), (1, .tmp 56), (2, .tmp 61)], type := 39, pos := "ref.go:84", after := #[{ on := 2, ground := .data }, { on := 6, ground := .data }, { on := 11, ground := .data }], guard := none },
  { dst := some 63, op := .buildSlice 24 1 #[(0, .tmp 62)], type := 24, pos := "ref.go:84", after := #[{ on := 12, ground := .data }], guard := none },
  { dst := some 64, op := .call { callee := .builtin .append, args := #[.tmp 50, .tmp 63], argTypes := #[24, 24] }, type := 24, pos := "ref.go:84", after := #[{ on := 0, ground := .data }, { on := 13, ground := .data }], guard := none },
  { dst := some 7, op := .assign (.tmp 64), type := 24, pos := "ref.go:84", after := #[{ on := 14, ground := .data }, { on := 14, ground := .chain }, { on := 0, ground := .phase }, { on := 1, ground := .phase }, { on := 2, ground := .phase }, { on := 3, ground := .phase }, { on := 4, ground := .phase }, { on := 5, ground := .phase }, { on := 6, ground := .phase }, { on := 7, ground := .phase }, { on := 8, ground := .phase }, { on := 9, ground := .phase }, { on := 10, ground := .phase }, { on := 11, ground := .phase }, { on := 12, ground := .phase }, { on := 13, ground := .phase }, { on := 14, ground := .phase }], guard := none }]
def rx_D : List Nat := [50, 51, 52, 53, 54, 55, 56, 57, 58, 59, 60, 61, 62, 63, 64, 7]
def rx_D0 : List Nat := [50, 51, 52, 53, 54, 55, 56, 57, 58, 59, 60, 61, 62, 63, 64]
theorem run_indexOp {o : Oper} {t : Nat} {x y : Operand} (ho : o.op = .indexAddr t x y) (a : Act) (W : World) (u z v : Value) (hu : a.eval x = u) (hz : a.eval y = z) (h : (Instr.indexAt t u z).run Tryz.prog W = .ok v W) : (execOp a.eval o).run Tryz.prog W = .ok (.value v) W := by
  unfold execOp
  simp only [ho, Sem.run_bind, hu, hz, h, Result.andThen_ok, Sem.run_pure]
theorem run_lenR {o : Oper} {x : Operand} (ho : o.op = .call { callee := .builtin .len, args := #[x], argTypes := #[24] }) (a : Act) (W : World) (b : Option Addr) (n c : Nat) (hx : a.eval x = .slice b n c) : (execOp a.eval o).run Tryz.prog W = .ok (.value (.int .i64 (n : Int))) W := by
  have hu := Tryz.underlying24
  unfold execOp
  have hl : (Builtin.len_ #[24] o.type #[.slice b n c]).run Tryz.prog W = .ok (.int .i64 (n : Int)) W := by simp [go_sem, hu]
  simp only [ho, resolve, invoke, List.map_toArray, List.map_cons, List.map_nil, hx]
  show ((Builtin.len_ #[24] o.type #[.slice b n c] >>= fun v => pure (Next.value v)).run Tryz.prog W) = _
  simp only [Sem.run_bind, hl, Result.andThen_ok, Sem.run_pure]
abbrev rxR (nP : Nat) (U N : List Int) (act : Int) : RuleM := { order := (nP : Int), cube := (U, N), action := act }
def rx_V (H B : Nat) (vv vc vR : Value) (nP j k : Nat) (g2 o2 g of : Nat) (U N : List Int) (act : Int) (L : List RuleM) (i : Nat) (v : Value) (w : World) : Prop :=
  match i with
  | 0 => v = vv
  | 1 => v = vv
  | 2 => v = .int .i64 (nP : Int)
  | 3 => v = vc
  | 4 => v = .int .i64 (j : Int)
  | 5 => v = .pointer (some ⟨g2, o2 + j * 26, none⟩)
  | 6 => v = .agg (cv U N)
  | 7 => v = vR
  | 8 => v = .int .i64 (k : Int)
  | 9 => v = .pointer (some ⟨g, of + k * 12, none⟩)
  | 10 => v = .pointer (some ⟨g, of + k * 12 + 11, none⟩)
  | 11 => v = .int .i64 act
  | 12 => v = .agg (ruleV (rxR nP U N act))
  | 13 => ∃ gn, v = .slice (some ⟨gn, 0, none⟩) 1 1 ∧ H ≤ gn ∧ w.heap[gn]? = some (.cells (ruleV (rxR nP U N act)) 39 (0, 0))
  | 14 => w.ownsRow B 39 28 v (L ++ [(rxR nP U N act)]).length (gcells ruleV (L ++ [(rxR nP U N act)]))
  | _ => True
theorem rx_mono (H B : Nat) (vv vc vR : Value) (nP j k : Nat) (g2 o2 g of : Nat) (U N : List Int) (act : Int) (L : List RuleM) : ∀ i v w w', rx_V H B vv vc vR nP j k g2 o2 g of U N act L i v w → Below w.heap.size w w' → rx_V H B vv vc vR nP j k g2 o2 g of U N act L i v w' := by
  intro i v w w' h hb
  revert h
  unfold rx_V
  split <;> intro h <;> first
    | exact h
    | exact gown_below h hb
    | (obtain ⟨gn, h1, h2, h3⟩ := h
       exact ⟨gn, h1, h2, (hb.block gn (Array.getElem?_eq_some_iff.1 h3).1).trans h3⟩)
structure RxI (B g2 g : Nat) (c2 c : Obj) (w00 w0 w : World) : Prop where
  two : w.heap[g2]? = some c2
  one : w.heap[g]? = some c
  below : Below B w00 w
  keep : ∀ (e : TypeId) (s : Nat) (u : Value) (n : Nat) (ys : List Value), e ≠ 39 → w0.ownsRow B e s u n ys → w.ownsRow B e s u n ys
  size : w0.heap.size ≤ w.heap.size
theorem RxI.stays {B g2 g : Nat} {c2 c : Obj} {w00 w0 w w' : World} (h : RxI B g2 g c2 c w00 w0 w) (hB : B ≤ w.heap.size) (hb : Below w.heap.size w w') : RxI B g2 g c2 c w00 w0 w' :=
  ⟨(hb.block _ (Array.getElem?_eq_some_iff.1 h.two).1).trans h.two, (hb.block _ (Array.getElem?_eq_some_iff.1 h.one).1).trans h.one, h.below.trans (hb.mono hB), fun e s u n ys h1 h2 => gown_below (h.keep e s u n ys h1 h2) hb, Nat.le_trans h.size hb.size⟩

set_option maxHeartbeats 8000000 in
theorem rx_region {id : Nat} {Q : Exit → Act → World → Prop} {a0 : Act} {w0 w00 : World} (hs : 66 ≤ a0.tmps.size) (B : Nat) (oP : Option Addr) (cP : Nat) (nP j k : Nat) (g2 o2 cc nc g of cR nR : Nat) (U N : List Int) (hU : Byt U) (hN : Byt N) (act : Int) (L : List RuleM) (cur2 cur : Array Value) (t2 t : TypeId) (fr2 fr : Nat × Nat)
    (h7 : a0.eval (.tmp 7) = .slice oP nP cP) (h9 : a0.eval (.tmp 9) = .slice (some ⟨g2, o2, none⟩) nc cc) (h10 : a0.eval (.tmp 10) = .int .i64 (j : Int)) (h6 : a0.eval (.tmp 6) = .slice (some ⟨g, of, none⟩) nR cR) (h8 : a0.eval (.tmp 8) = .int .i64 (k : Int))
    (hj : j < nc) (hk : k < nR)
    (hg2 : w0.heap[g2]? = some (.cells cur2 t2 fr2)) (hc2 : ∀ q, q < 26 → cur2[o2 + j * 26 + q]? = (cv U N)[q]?) (hg : w0.heap[g]? = some (.cells cur t fr)) (hc : cur[of + k * 12 + 11]? = some (.int .i64 act))
    (hown : w0.ownsRow B 39 28 (.slice oP nP cP) L.length (gcells ruleV L)) (hnP : nP = L.length) (hL : L.length ≤ 100000) (hB : B ≤ w0.heap.size) (h00 : Below B w00 w0)
    (hne2 : (Value.slice oP nP cP).ownBlock ≠ some g2) (hne : (Value.slice oP nP cP).ownBlock ≠ some g)
    (hK : ∀ y w' v', RxI B g2 g (.cells cur2 t2 fr2) (.cells cur t fr) w00 w0 w' → w'.ownsRow B 39 28 v' (L ++ [(rxR nP U N act)]).length (gcells ruleV (L ++ [(rxR nP U N act)])) → Q .normal ((putsD rx_D0 y a0).put (some 7) v') w') : (Code.region id rx_ops.toArray true).wp Tryz.prog Q a0 w0 := by
  have hDs : ∀ d ∈ rx_D, d < a0.tmps.size := fun d hd => by
    have : d < 66 := by
      revert hd; unfold rx_D; intro hd
      simp only [List.mem_cons, List.not_mem_nil, or_false] at hd
      omega
    omega
  have hUl := hU.1
  have hNl := hN.1
  have K0 : RxI B g2 g (.cells cur2 t2 fr2) (.cells cur t fr) w00 w0 w0 := ⟨hg2, hg, h00, fun _ _ _ _ _ _ h => h, Nat.le_refl _⟩
  have HRK : okR8 (rxR nP U N act) := ⟨hU, hN⟩
  have hsz := ruleV_size HRK
  have frm : ∀ (b : Bool) (w : World), (if b then RxI B g2 g (.cells cur2 t2 fr2) (.cells cur t fr) w00 w0 w else Below w0.heap.size w0 w) → RxI B g2 g (.cells cur2 t2 fr2) (.cells cur t fr) w00 w0 w := fun b w h => by
    cases b with
    | true => exact h
    | false => exact K0.stays hB h
  refine region_mid2 15 14 (rx_V w0.heap.size B (.slice oP nP cP) (.slice (some ⟨g2, o2, none⟩) nc cc) (.slice (some ⟨g, of, none⟩) nR cR) nP j k g2 o2 g of U N act L) (fun b w => if b then RxI B g2 g (.cells cur2 t2 fr2) (.cells cur t fr) w00 w0 w else Below w0.heap.size w0 w) rx_D (by kernel_rfl) (by decide) rfl (by kernel_rfl) rx_D0 (by kernel_rfl) (by decide) hDs (by kernel_rfl) (by kernel_rfl) (rx_mono _ _ _ _ _ _ _ _ _ _ _ _ _ _ _ _) ?_ ?_ ?_ ?_ ?_
  · intro b w w' h hb
    cases b with
    | true => exact RxI.stays h (Nat.le_trans hB (RxI.size h)) hb
    | false => exact Below.trans h (hb.mono (Below.size h))
  · exact (Below.refl _ _).drew
  · intro i o ho hi him b a w h
    have kw := frm b w h.wld
    have E7 : a.eval (.tmp 7) = .slice oP nP cP := (h.other 7 (by decide)).trans h7
    have e6 : a.eval (.tmp 6) = .slice (some ⟨g, of, none⟩) nR cR := (h.other 6 (by decide)).trans h6
    have e8 : a.eval (.tmp 8) = .int .i64 (k : Int) := (h.other 8 (by decide)).trans h8
    have e9 : a.eval (.tmp 9) = .slice (some ⟨g2, o2, none⟩) nc cc := (h.other 9 (by decide)).trans h9
    have e10 : a.eval (.tmp 10) = .int .i64 (j : Int) := (h.other 10 (by decide)).trans h10
    have i2 : (Instr.indexAt 49 (.slice (some ⟨g2, o2, none⟩) nc cc) (.int .i64 (j : Int))).run Tryz.prog w = .ok (.pointer (some ⟨g2, o2 + j * 26, none⟩)) w := by
      simp [go_sem, Tryz.underlying49]; omega
    have i1 : (Instr.indexAt 22 (.slice (some ⟨g, of, none⟩) nR cR) (.int .i64 (k : Int))).run Tryz.prog w = .ok (.pointer (some ⟨g, of + k * 12, none⟩)) w := by
      simp [go_sem, Tryz.underlying22]; omega
    have ff : (Instr.fieldAt 35 (.pointer (some ⟨g, of + k * 12, none⟩)) 11).run Tryz.prog w = .ok (.pointer (some ⟨g, of + k * 12 + 11, none⟩)) w := by simp [go_sem]
    have c11 : w.cell? ⟨g, of + k * 12 + 11, none⟩ = some (.int .i64 act) := by rw [cell_of_row _ _ _ _ _ _ kw.one]; exact hc
    rcases (show i = 0 ∨ i = 1 ∨ i = 2 ∨ i = 3 ∨ i = 4 ∨ i = 5 ∨ i = 6 ∨ i = 7 ∨ i = 8 ∨ i = 9 ∨ i = 10 ∨ i = 11 ∨ i = 12 ∨ i = 13 by omega) with rfl | rfl | rfl | rfl | rfl | rfl | rfl | rfl | rfl | rfl | rfl | rfl | rfl | rfl
    · obtain rfl := Option.some.inj ho
      exact iv_val rfl rfl _ (run_moveOp rfl _ _ _ E7) rfl
    · obtain rfl := Option.some.inj ho
      exact iv_val rfl rfl _ (run_moveOp rfl _ _ _ E7) rfl
    · obtain rfl := Option.some.inj ho
      have f1 : a.eval (.tmp 51) = .slice oP nP cP := h.has ⟨1, .data⟩ (by simp) rfl _ 51 rfl rfl
      exact iv_val rfl rfl _ (run_lenR rfl _ _ _ _ _ f1) rfl
    · obtain rfl := Option.some.inj ho
      exact iv_val rfl rfl _ (run_moveOp rfl _ _ _ e9) rfl
    · obtain rfl := Option.some.inj ho
      exact iv_val rfl rfl _ (run_moveOp rfl _ _ _ e10) rfl
    · obtain rfl := Option.some.inj ho
      have f1 : a.eval (.tmp 53) = .slice (some ⟨g2, o2, none⟩) nc cc := h.has ⟨3, .data⟩ (by simp) rfl _ 53 rfl rfl
      have f2 : a.eval (.tmp 54) = .int .i64 (j : Int) := h.has ⟨4, .data⟩ (by simp) rfl _ 54 rfl rfl
      exact iv_val rfl rfl _ (run_indexOp rfl _ _ _ _ _ f1 f2 i2) rfl
    · obtain rfl := Option.some.inj ho
      have f1 : a.eval (.tmp 55) = .pointer (some ⟨g2, o2 + j * 26, none⟩) := h.has ⟨5, .data⟩ (by simp) rfl _ 55 rfl rfl
      refine iv_list rfl ?_
      refine wl_loadE (E := CubE) CubOk rfl _ rfl g2 (o2 + j * 26) f1 cur2 t2 fr2 (cv U N) (cv_size _ _ hUl hNl) kw.two hc2 ?_
      exact ⟨_, rfl, Below.refl _ _, fun _ _ => rfl⟩
    · obtain rfl := Option.some.inj ho
      exact iv_val rfl rfl _ (run_moveOp rfl _ _ _ e6) rfl
    · obtain rfl := Option.some.inj ho
      exact iv_val rfl rfl _ (run_moveOp rfl _ _ _ e8) rfl
    · obtain rfl := Option.some.inj ho
      have f1 : a.eval (.tmp 57) = .slice (some ⟨g, of, none⟩) nR cR := h.has ⟨7, .data⟩ (by simp) rfl _ 57 rfl rfl
      have f2 : a.eval (.tmp 58) = .int .i64 (k : Int) := h.has ⟨8, .data⟩ (by simp) rfl _ 58 rfl rfl
      exact iv_val rfl rfl _ (run_indexOp rfl _ _ _ _ _ f1 f2 i1) rfl
    · obtain rfl := Option.some.inj ho
      have f1 : a.eval (.tmp 59) = .pointer (some ⟨g, of + k * 12, none⟩) := h.has ⟨9, .data⟩ (by simp) rfl _ 59 rfl rfl
      exact iv_val rfl rfl _ (run_fieldOp rfl _ _ _ ((congrArg (fun y => (Instr.fieldAt 35 y 11).run Tryz.prog w) f1).trans ff)) rfl
    · obtain rfl := Option.some.inj ho
      have f1 : a.eval (.tmp 60) = .pointer (some ⟨g, of + k * 12 + 11, none⟩) := h.has ⟨10, .data⟩ (by simp) rfl _ 60 rfl rfl
      exact iv_val rfl rfl _ (run_loadOp rfl _ _ _ _ f1 (load_int _ _ _ c11)) rfl
    · obtain rfl := Option.some.inj ho
      have f1 : a.eval (.tmp 52) = .int .i64 (nP : Int) := h.has ⟨2, .data⟩ (by simp) rfl _ 52 rfl rfl
      have f2 : a.eval (.tmp 56) = .agg (cv U N) := h.has ⟨6, .data⟩ (by simp) rfl _ 56 rfl rfl
      have f3 : a.eval (.tmp 61) = .int .i64 act := h.has ⟨11, .data⟩ (by simp) rfl _ 61 rfl rfl
      refine iv_list rfl ?_
      refine wl_buildR rfl _ _ _ rfl (nP : Int) U N act hUl hNl f1 f2 f3 ?_
      exact ⟨_, rfl, Below.refl _ _, fun _ _ => rfl⟩
    · obtain rfl := Option.some.inj ho
      have f1 : a.eval (.tmp 62) = .agg (ruleV (rxR nP U N act)) := h.has ⟨12, .data⟩ (by simp) rfl _ 62 rfl rfl
      refine iv_list rfl ?_
      refine wl_buildE (E := RuleE) RuleOk rfl _ rfl (ruleV (rxR nP U N act)) hsz f1 ?_
      exact ⟨_, rfl, (Below.refl _ _).alloc (Nat.le_refl _) _, fun _ _ => ⟨_, rfl, kw.size, heap_new _ _ _ rfl⟩⟩
  · intro o ho a w h
    obtain rfl := Option.some.inj ho
    have hb : Below w0.heap.size w0 w := h.wld
    have kw := frm false w hb
    have f1 : a.eval (.tmp 50) = .slice oP nP cP := h.has ⟨0, .data⟩ (by simp) rfl _ 50 rfl rfl
    obtain ⟨gn, f2, f3, f4⟩ : ∃ gn, a.eval (.tmp 63) = .slice (some ⟨gn, 0, none⟩) 1 1 ∧ w0.heap.size ≤ gn ∧ w.heap[gn]? = some (.cells (ruleV (rxR nP U N act)) 39 (0, 0)) := h.has ⟨13, .data⟩ (by simp) rfl _ 63 rfl rfl
    have hown' := gown_below hown hb
    refine wpOp_of_list rfl ?_
    refine wl_appendE (E := RuleE) RuleOk ruleV rfl _ _ rfl B (.slice oP nP cP) L (rxR nP U N act) (rule_fits HRK) f1 hown' gn 1 f2 f4 (by omega) (Nat.le_trans hB hb.size) ?_
    intro v' w3 hown3 hgr3 _
    have bg : Below B w w3 := (Below.refl _ _).grown hgr3 (Nat.le_trans hB hb.size) fun k hk => (hown'.lt k hk).1
    have k3 : RxI B g2 g (.cells cur2 t2 fr2) (.cells cur t fr) w00 w0 w3 := ⟨(hgr3.block g2 (Array.getElem?_eq_some_iff.1 kw.two).1 (fun hq => hne2 hq.symm)).trans kw.two, (hgr3.block g (Array.getElem?_eq_some_iff.1 kw.one).1 (fun hq => hne hq.symm)).trans kw.one, kw.below.trans bg, fun e s u n ys h1 h2 => own_by8 hown' hgr3 (kw.keep e s u n ys h1 h2) (Ne.symm h1), Nat.le_trans kw.size bg.size⟩
    refine ⟨v', rfl, k3, ?_, fun _ _ => hown3⟩
    intro i z hi
    unfold rx_V
    split <;> intro hz <;> first
      | exact hz
      | exact absurd rfl hi
      | (obtain ⟨gm, q1, q2, q3⟩ := hz
         exact ⟨gm, q1, q2, (hgr3.block gm (Array.getElem?_eq_some_iff.1 q3).1 (fun hq => by have := (hown.lt gm hq.symm).2; omega)).trans q3⟩)
  · intro a w hI hsz2 hdf hot hh
    have f1 : w.ownsRow B 39 28 (a.eval (.tmp 64)) (L ++ [rxR nP U N act]).length (gcells ruleV (L ++ [rxR nP U N act])) := hh 14 _ 64 (by decide) rfl rfl
    obtain ⟨v, hv⟩ : ∃ v, a.eval (.tmp 64) = v := ⟨_, rfl⟩
    rw [hv] at f1
    refine wpOp_assign rfl rfl _ rfl v hv (some 7) rfl ?_
    show Q .normal (a.put (some 7) v) w
    rw [puts_form hsz2 hdf hot (fun d hd => hDs d (by revert hd; unfold rx_D rx_D0; intro hd; simp only [List.mem_cons, List.not_mem_nil, or_false] at hd ⊢; omega))]
    exact hK _ w v hI f1
end Go.Proofs.YtnbklmmampdbfaaGreatDoor
namespace Go.Proofs.YtnbklmmampdbfaaGreatDoor
open Go Go.RowKit
set_option maxRecDepth 20000

theorem ent_prio {x : Ent} {cur : Array Value} {off k : Nat} (h : ∀ j, j < 12 → cur[off + k * 12 + j]? = (entV x)[j]?) : cur[off + k * 12 + 1]? = some (.int .i64 x.prio) := h 1 (by decide)
theorem ent_act {x : Ent} {cur : Array Value} {off k : Nat} (h : ∀ j, j < 12 → cur[off + k * 12 + j]? = (entV x)[j]?) : cur[off + k * 12 + 11]? = some (.int .i64 x.action) := h 11 (by decide)
theorem step_no {ap : Ent → Bool} {b : Option (Nat × Int)} {i : Nat} {x : Ent} (h : (!x.dflt && ap x && beats x.prio b) = false) : stepB ap b i x = b := by unfold stepB; rw [h]; rfl
theorem step_yes {ap : Ent → Bool} {b : Option (Nat × Int)} {i : Nat} {x : Ent} (h : (!x.dflt && ap x && beats x.prio b) = true) : stepB ap b i x = some (i, x.prio) := by unfold stepB; rw [h]; rfl

set_option maxHeartbeats 16000000 in
set_option maxRecDepth 100000 in
theorem which_any (l : List Ent) (vl : Value) (w : World) (hl : EntsAt w vl l) (h32 : ∀ x ∈ l, ent32 x) (L : List Int) (hL : Byt L) (hP : Places w) :
    Calls Tryz.prog 23 #[vl, .agg (hv L)] w fun e w' => e = .returned (.int .i64 (whichI (applyT L) l)) ∧ Below w.heap.size w w' := by
  have hLl := hL.1
  have hp := hP.pos
  have AP : Hid (∀ (x : Ent) W, ent32 x → Below w.heap.size w W → Calls Tryz.prog 41 #[.agg (entV x), .agg (hv L)] W fun e w' => e = .returned (.bool (applyT L x)) ∧ Below W.heap.size W w') := fun x W h1 h2 => applies_any x h1 L hL W (hP.later hp h2)
  obtain ⟨o, cap, rfl, hc1, hc2⟩ := GSl.slice hl
  obtain ⟨n, hn⟩ : ∃ n, n = l.length := ⟨_, rfl⟩
  have HN : Hid (n = l.length) := hn
  rw [← hn] at hl hc1 ⊢
  have HL : Hid (EntsAt w (.slice o n cap) l) := hl
  have H32 : Hid (∀ x ∈ l, ent32 x) := h32
  unfold maxLen at hc2
  have HW : Hid (whichI (applyT L) l = if bestI (bestK (applyT L) l n) < 0 then atW (restK l n) else bestI (bestK (applyT L) l n)) := by rw [HN.out]; exact whichI_eq _ _
  obtain ⟨ap, hap⟩ : ∃ ap, ap = applyT L := ⟨_, rfl⟩
  rw [← hap] at HW AP ⊢
  have KN : Hid ((w.alloc (.cells (hv L) 31)).heap[w.heap.size]? = some (.cells (hv L) 31 (0, 0)) ∧ Below w.heap.size w (w.alloc (.cells (hv L) 31))) := ⟨heap_new _ _ _ rfl, (Below.refl _ _).alloc (Nat.le_refl _) _⟩
  clear hl hn h32 hP hp hap
  go_enter Tryz.func23, Tryz.ntmps23
  go_wp2_with fail
  go_loopw [5, 6, 11] (fun ru re i wr => ∃ k : Nat, k ≤ n ∧ i = .int .i64 (k : Int) ∧ ru = .int .i64 (bestI (bestK ap l k)) ∧ re = .int .i64 (atW (restK l k)) ∧ wr.heap[w.heap.size]? = some (.cells (hv L) 31 (0, 0)) ∧ Below w.heap.size w wr) (fun _ _ i _ => n - (intOf i).toNat)
  case atStart => exact ⟨0, Nat.zero_le _, rfl, rfl, rfl, KN.out.1, KN.out.2⟩
  case round =>
    clear KN
    obtain ⟨k, hk, rfl, rfl, rfl, hr1, hb⟩ := hrel
    have R1 : Hid (wr.heap[w.heap.size]? = some (.cells (hv L) 31 (0, 0))) := hr1
    have HB : Hid (Below w.heap.size w wr) := hb
    clear hr1 hb
    by_cases hlt : k < n
    · have hlt' : (k : Int) < (n : Int) := by omega
      obtain ⟨g, off, cur, ty, fr, x, rfl, hg, hc, hxk⟩ := (GSl.below HL.out HB.out).at k hlt
      have K1 : Hid (wr.heap[g]? = some (.cells cur ty fr)) := hg
      have H1 : Hid (∀ j, j < 12 → cur[off + k * 12 + j]? = (entV x)[j]?) := hc
      have HX : Hid (ent32 x) := H32.out x (List.mem_of_getElem? hxk)
      have BX : Hid (bestK ap l (k + 1) = stepB ap (bestK ap l k) k x) := bestK_next ap hxk
      have RX : Hid (restK l (k + 1) = (restK l k).or (if x.dflt then some k else none)) := restK_next hxk
      have KN : Hid ((wr.alloc (.cells (entV x) 35)).heap[wr.heap.size]? = some (.cells (entV x) 35 (0, 0))) := heap_new _ _ _ rfl
      have BN : Hid (Below wr.heap.size wr (wr.alloc (.cells (entV x) 35))) := (Below.refl _ _).alloc (Nat.le_refl _) _
      have RN : Hid ((wr.alloc (.cells (entV x) 35)).heap[w.heap.size]? = some (.cells (hv L) 31 (0, 0))) := heap_past _ _ _ _ R1.out
      have BWN : Hid (Below w.heap.size w (wr.alloc (.cells (entV x) 35))) := HB.out.trans (BN.out.mono HB.out.size)
      have d0 := (ent_f KN.out).1
      have HLK : Hid (∀ j p, bestK ap l k = some (j, p) → ∃ y, l[j]? = some y ∧ y.prio = p ∧ j < k) := fun j p h => by
        obtain ⟨y, h1, h2, _, _, h5⟩ := bestK_in ap h
        exact ⟨y, h1, h2, h5⟩
      clear hg hc hxk
      cases hd : x.dflt with
      | true =>
        rw [hd] at d0 RX
        have hstep : bestK ap l (k + 1) = bestK ap l k := by rw [BX.out, step_no (by rw [hd]; rfl)]
        have HST : Hid (bestK ap l (k + 1) = bestK ap l k) := hstep
        clear hstep hd
        cases hre : restK l k with
        | none =>
          rw [hre] at RX
          have HRE : Hid (restK l (k + 1) = some k) := RX.out
          rw [show atW none = -1 from rfl]
          go_wp2_with (first
            | (refine wl_loadE (E := EntE) EntOk rfl _ rfl g (off + k * 12) rfl cur ty fr (entV x) rfl K1.out H1.out ?_)
            | (refine wl_storeE (E := EntE) EntOk rfl _ _ rfl wr.heap.size (entV x) (ent_fits _) rfl rfl _ (heap_new _ _ _ rfl) rfl _ (setRow_new _ _ _ _ _ rfl) ?_))
          go_roundw
          case rel => exact ⟨k + 1, by omega, by go_num, by rw [HST.out], by rw [HRE.out]; rfl, RN.out, BWN.out⟩
          case measure => simp [intOf]; omega
        | some j =>
          rw [hre] at RX
          have HRE : Hid (restK l (k + 1) = some j) := RX.out
          rw [show atW (some j) = (j : Int) from rfl]
          have hj0 : ¬ (j : Int) < 0 := by omega
          clear hre
          go_wp2_with (first
            | (refine wl_loadE (E := EntE) EntOk rfl _ rfl g (off + k * 12) rfl cur ty fr (entV x) rfl K1.out H1.out ?_)
            | (refine wl_storeE (E := EntE) EntOk rfl _ _ rfl wr.heap.size (entV x) (ent_fits _) rfl rfl _ (heap_new _ _ _ rfl) rfl _ (setRow_new _ _ _ _ _ rfl) ?_))
          go_roundw
          case rel => exact ⟨k + 1, by omega, by go_num, by rw [HST.out], by rw [HRE.out]; rfl, RN.out, BWN.out⟩
          case measure => simp [intOf]; omega
      | false =>
        rw [hd] at d0 RX
        have HRE : Hid (restK l (k + 1) = restK l k) := by
          show _ = _
          rw [RX.out]
          cases restK l k <;> rfl
        have HDF : Hid (x.dflt = false) := hd
        clear hd
        obtain ⟨re, hre⟩ : ∃ re, re = atW (restK l k) := ⟨_, rfl⟩
        have HRR : Hid (re = atW (restK l (k + 1))) := by rw [HRE.out]; exact hre
        rw [← hre]
        clear hre
        go_wp2_with (first
          | (refine wl_loadE (E := EntE) EntOk rfl _ rfl g (off + k * 12) rfl cur ty fr (entV x) rfl K1.out H1.out ?_)
          | (refine wl_storeE (E := EntE) EntOk rfl _ _ rfl wr.heap.size (entV x) (ent_fits _) rfl rfl _ (heap_new _ _ _ rfl) rfl _ (setRow_new _ _ _ _ _ rfl) ?_)
          | (refine wl_loadE (E := EntE) EntOk rfl _ rfl wr.heap.size 0 rfl _ _ _ (entV x) rfl KN.out (own_cells _ _) ?_)
          | (refine wl_load26 rfl _ rfl w.heap.size rfl L RN.out hLl ?_))
        refine (AP.out x _ HX.out BWN.out).mono ?_
        rintro e w1 ⟨rfl, hb1⟩
        have R2 : Hid (w1.heap[w.heap.size]? = some (.cells (hv L) 31 (0, 0))) := (hb1.block _ (Array.getElem?_eq_some_iff.1 RN.out).1).trans RN.out
        have B2 : Hid (Below w.heap.size w w1) := BWN.out.trans (hb1.mono BWN.out.size)
        have k2 : w1.heap[wr.heap.size]? = some (.cells (entV x) 35 (0, 0)) := (hb1.block _ (by simp)).trans KN.out
        have BR : Hid (Below wr.heap.size wr w1) := BN.out.trans (hb1.mono BN.out.size)
        clear hb1 d0
        cases ha : ap x with
        | false =>
          have HST : Hid (bestK ap l (k + 1) = bestK ap l k) := by
            show _ = _
            rw [BX.out, step_no (by rw [ha]; simp)]
          clear ha
          obtain ⟨be, hbe⟩ : ∃ be, be = bestI (bestK ap l k) := ⟨_, rfl⟩
          have HBE : Hid (be = bestI (bestK ap l (k + 1))) := by rw [HST.out]; exact hbe
          rw [← hbe]
          clear hbe
          go_wp2_with fail
          go_roundw
          case rel => exact ⟨k + 1, by omega, by go_num, by rw [HBE.out], by rw [HRR.out], R2.out, B2.out⟩
          case measure => simp [intOf]; omega
        | true =>
          have HAP : Hid (ap x = true) := ha
          clear ha
          cases hbe : bestK ap l k with
          | none =>
            have HST : Hid (bestK ap l (k + 1) = some (k, x.prio)) := by
              show _ = _
              rw [BX.out, step_yes (by rw [HDF.out, HAP.out, hbe]; rfl)]
            clear hbe
            rw [show bestI none = -1 from rfl]
            have lp : ∀ u : Later w1, u.world.cell? ⟨wr.heap.size, 1, none⟩ = some (.int .i64 x.prio) := later_cell7 k2 rfl
            go_wp2_with fail
            have ne1 := Later.ne w1
            refine wp_region_later (by kernel_rfl) (by kernel_rfl) ?_
            repeat go_big_quiet_step (rfl)
            refine wpQuiet_nil ?_
            rintro w' ⟨v, rfl⟩
            have R3 : Hid (v.world.heap[w.heap.size]? = some (.cells (hv L) 31 (0, 0))) := later_block R2.out _ ⟨v, rfl⟩
            have B3 : Hid (Below w.heap.size w v.world) := B2.out.trans (v.below.mono B2.out.size)
            obtain ⟨W3, hW3⟩ : ∃ W3, W3 = v.world := ⟨_, rfl⟩
            rw [← hW3] at R3 B3 ⊢
            clear hW3 lp ne1
            go_wp2_with fail
            go_roundw
            case rel => exact ⟨k + 1, by omega, by go_num, by rw [HST.out]; rfl, by rw [HRR.out], R3.out, B3.out⟩
            case measure => simp [intOf]; omega
          | some bb =>
            obtain ⟨j, p⟩ := bb
            obtain ⟨y, hy, rfl, hjk⟩ := HLK.out j p hbe
            obtain ⟨g', off', cur', ty', fr', y', e0, hg', hc', hyj⟩ := (GSl.below HL.out HB.out).at j (by omega)
            simp only [Option.some.injEq, Addr.mk.injEq, and_true] at e0
            obtain ⟨rfl, rfl⟩ := e0
            obtain rfl : y = y' := Option.some.inj (hy.symm.trans hyj)
            have lg : ∀ u : Later w1, u.world.cell? ⟨g, off + j * 12 + 1, none⟩ = some (.int .i64 y.prio) := later_cell7 ((BR.out.block g (Array.getElem?_eq_some_iff.1 hg').1).trans hg') (ent_prio hc')
            have lp : ∀ u : Later w1, u.world.cell? ⟨wr.heap.size, 1, none⟩ = some (.int .i64 x.prio) := later_cell7 k2 rfl
            rw [show bestI (some (j, y.prio)) = (j : Int) from rfl]
            have hj0 : decide ((j : Int) < 0) = false := by simp
            have hj1 : (j : Int) < (n : Int) := by omega
            have hjn : j < n := by omega
            by_cases hgt : y.prio < x.prio
            · have hgt' : decide (x.prio > y.prio) = true := by simp; omega
              have HST : Hid (bestK ap l (k + 1) = some (k, x.prio)) := by
                show _ = _
                rw [BX.out, step_yes (by rw [HDF.out, HAP.out, hbe]; simp [beats, hgt])]
              clear hbe hy hyj hg' hc' hgt
              go_wp2_with fail
              have ne1 := Later.ne w1
              refine wp_region_later (by kernel_rfl) (by kernel_rfl) ?_
              repeat go_big_quiet_step (rfl)
              refine wpQuiet_nil ?_
              rintro w' ⟨v, rfl⟩
              have R3 : Hid (v.world.heap[w.heap.size]? = some (.cells (hv L) 31 (0, 0))) := later_block R2.out _ ⟨v, rfl⟩
              have B3 : Hid (Below w.heap.size w v.world) := B2.out.trans (v.below.mono B2.out.size)
              obtain ⟨W3, hW3⟩ : ∃ W3, W3 = v.world := ⟨_, rfl⟩
              rw [← hW3] at R3 B3 ⊢
              clear hW3 lp lg ne1
              go_wp2_with fail
              go_roundw
              case rel => exact ⟨k + 1, by omega, by go_num, by rw [HST.out]; rfl, by rw [HRR.out], R3.out, B3.out⟩
              case measure => simp [intOf]; omega
            · have hgt' : decide (x.prio > y.prio) = false := by simp; omega
              have HST : Hid (bestK ap l (k + 1) = some (j, y.prio)) := by
                show _ = _
                rw [BX.out, step_no (by rw [HDF.out, HAP.out, hbe]; simp [beats, hgt]), hbe]
              clear hbe hy hyj hg' hc' hgt
              go_wp2_with fail
              have ne1 := Later.ne w1
              refine wp_region_later (by kernel_rfl) (by kernel_rfl) ?_
              repeat go_big_quiet_step (rfl)
              refine wpQuiet_nil ?_
              rintro w' ⟨v, rfl⟩
              have R3 : Hid (v.world.heap[w.heap.size]? = some (.cells (hv L) 31 (0, 0))) := later_block R2.out _ ⟨v, rfl⟩
              have B3 : Hid (Below w.heap.size w v.world) := B2.out.trans (v.below.mono B2.out.size)
              obtain ⟨W3, hW3⟩ : ∃ W3, W3 = v.world := ⟨_, rfl⟩
              rw [← hW3] at R3 B3 ⊢
              clear hW3 lp lg ne1
              go_wp2_with fail
              go_roundw
              case rel => exact ⟨k + 1, by omega, by go_num, by rw [HST.out]; rfl, by rw [HRR.out], R3.out, B3.out⟩
              case measure => simp [intOf]; omega
    · have hlt' : (n : Int) ≤ (k : Int) := by omega
      obtain rfl : k = n := by omega
      clear hlt
      by_cases hneg : bestI (bestK ap l k) < 0
      · have HW2 : Hid (whichI ap l = atW (restK l k)) := by rw [HW.out]; exact if_pos hneg
        go_wp2_with fail
        go_ret
        exact ⟨by rw [HW2.out]; rfl, HB.out⟩
      · have HW2 : Hid (whichI ap l = bestI (bestK ap l k)) := by rw [HW.out]; exact if_neg hneg
        go_wp2_with fail
        go_ret
        exact ⟨by rw [HW2.out]; rfl, HB.out⟩
end Go.Proofs.YtnbklmmampdbfaaGreatDoor
namespace Go.Proofs.YtnbklmmampdbfaaGreatDoor
open Go Go.RowKit
set_option maxRecDepth 20000

def okW (x : List UInt8) : Bool := isAddrW x || isPortW x || x == wProto
/-- A clause, whatever its word. -/
def clauT (E : Nat) (t : Tok) (T : List Tok) : Res (Cla × List Tok) := if isAddrW t.text then addrC E t T else if isPortW t.text then portC6 E t T else if t.text == wProto then protC E t T else .error (8, t.pos)

set_option maxHeartbeats 4000000 in
theorem clause_other (W0 w : World) (g E : Nat) (t : Tok) (ht : okW t.text = false) :
    Calls Tryz.prog 115 #[.pointer (some ⟨g, 0, none⟩), .agg (encT t)] w fun e w' => Took W0 w g E (ClaR w.heap.size) (.error (8, t.pos)) e w' := by
  unfold okW isAddrW isPortW at ht
  simp only [Bool.or_eq_false_iff] at ht
  have e0 : (t.text == [115, 114, 99]) = false := ht.1.1.1
  have e1 : (t.text == [100, 115, 116]) = false := ht.1.1.2
  have e2 : (t.text == [115, 112, 111, 114, 116]) = false := ht.1.2.1
  have e3 : (t.text == [100, 112, 111, 114, 116]) = false := ht.1.2.2
  have e4 : (t.text == [112, 114, 111, 116, 111]) = false := ht.2
  have q1 := fun x => tok_cells (heap_past _ x _ _ (heap_new w (.cells (encT t) 117) _ rfl))
  have q2 := fun x y => tok_cells (heap_past _ y _ _ (heap_past _ x _ _ (heap_new w (.cells (encT t) 117) _ rfl)))
  have t1 := fun x => (q1 x).2.1
  have t2 := fun x => (q1 x).2.2.1
  have t5 := fun x y => (q2 x y).2.1
  have t6 := fun x y => (q2 x y).2.2.1
  clear q1 q2 ht
  go_enter Tryz.func115, Tryz.ntmps115
  go_wp2_with (first
    | (refine wl_storeE (E := ClaE) ClaOk rfl _ _ rfl (w.heap.size + 2) (claV ⟨t.text, (t.pos : Int), [], false, false⟩ (.slice none 0 0)) (cla_fits _ _ ⟨_, _, _, rfl⟩) rfl rfl _ (heap_new _ _ _ (by simp)) rfl _ (setRow_new _ _ _ _ _ (by simp)) ?_))
  exact ⟨rfl, gb_alloc (gb_alloc (gb_alloc (gb_refl w g) _) _) _, rfl⟩
theorem clause_any (W0 w : World) (g E : Nat) (t : Tok) (T : List Tok) (h : Rd W0 w g E T) :
    Calls Tryz.prog 115 #[.pointer (some ⟨g, 0, none⟩), .agg (encT t)] w fun e w' => Took W0 w g E (ClaR w.heap.size) (clauT E t T) e w' := by
  unfold clauT
  by_cases h1 : t.text = wSrc
  · rw [if_pos (by rw [h1]; rfl)]; exact clause_src W0 w g E t h1 T h
  · by_cases h2 : t.text = wDst
    · rw [if_pos (by rw [h2]; rfl)]; exact clause_dst W0 w g E t h2 T h
    · have hA : isAddrW t.text = false := by unfold isAddrW; rw [Bool.or_eq_false_iff, beq_eq_false_iff_ne, beq_eq_false_iff_ne]; exact ⟨h1, h2⟩
      rw [hA, if_neg (by decide)]
      by_cases h3 : t.text = wSport
      · rw [if_pos (by rw [h3]; rfl)]; exact clause_sport W0 w g E t h3 T h
      · by_cases h4 : t.text = wDport
        · rw [if_pos (by rw [h4]; rfl)]; exact clause_dport W0 w g E t h4 T h
        · have hP : isPortW t.text = false := by unfold isPortW; rw [Bool.or_eq_false_iff, beq_eq_false_iff_ne, beq_eq_false_iff_ne]; exact ⟨h3, h4⟩
          rw [hP, if_neg (by decide)]
          by_cases h5 : t.text = wProto
          · rw [if_pos (by rw [h5]; rfl)]; exact clause_proto W0 w g E t h5 T h
          · have hp5 : (t.text == wProto) = false := by rw [beq_eq_false_iff_ne]; exact h5
            rw [hp5, if_neg (by decide)]
            exact clause_other W0 w g E t (by unfold okW; rw [hA, hP, hp5]; rfl)
/-- What the model says of a clause, and what the reader does. -/
theorem takeC_eq (E : Nat) (had : List Cla) (hh : ∀ c ∈ had, okW c.word = true) (t : Tok) (T : List Tok) : takeC E had t T = if had.any (fun c => c.word == t.text) then .error (9, t.pos) else clauT E t T := by
  unfold takeC clauT
  by_cases hb : had.any (fun c => c.word == t.text) = true
  · rw [if_pos hb]
    obtain ⟨c, hc, hw⟩ := List.any_eq_true.1 hb
    have hk : okW t.text = true := by
      have := hh c hc
      rwa [show c.word = t.text by simpa using hw] at this
    rw [if_neg, if_pos hb]
    unfold okW at hk
    intro hn
    simp only [Bool.and_eq_true, Bool.not_eq_true', Bool.or_eq_true] at hn hk
    rcases hk with (hk | hk) | hk
    · rw [hk] at hn; simp at hn
    · rw [hk] at hn; simp at hn
    · rw [hk] at hn; simp at hn
  · rw [if_neg hb, if_neg hb]
    by_cases hA : isAddrW t.text = true
    · rw [if_pos hA, if_neg (by rw [hA]; simp)]
      unfold addrC addrT
      cases hF : takeF E T with
      | error x => rfl
      | ok x =>
        show (if isAddrW t.text = true then _ else _) = _
        rw [if_pos hA]
        show _ = ((takeD E 3 x.2).map fun y => (x.1 :: y.1, y.2)).bind _
        cases hD : takeD E 3 x.2 with
        | error y => rfl
        | ok y => rfl
    · have hA' : isAddrW t.text = false := by simpa using hA
      rw [hA', if_neg (show ¬ (false = true) by decide)]
      by_cases hP : isPortW t.text = true
      · rw [if_pos hP, if_neg (by rw [hP]; simp)]
        unfold portC6
        cases hF : takeF E T with
        | error x => rfl
        | ok x =>
          simp only [Except.bind, Bool.false_eq_true, if_false, hP, if_true]
      · have hP' : isPortW t.text = false := by simpa using hP
        rw [hP', if_neg (show ¬ (false = true) by decide)]
        by_cases hQ : (t.text == wProto) = true
        · rw [if_pos hQ, if_neg (by rw [hQ]; simp)]
          unfold protC
          cases hF : takeF E T with
          | error x => rfl
          | ok x =>
            simp only [Except.bind, Except.map, Bool.false_eq_true, if_false]
        · have hQ' : (t.text == wProto) = false := by simpa using hQ
          rw [hQ', if_neg (show ¬ (false = true) by decide), if_pos (by simp)]
theorem clauT_ok {E : Nat} {t : Tok} {T T' : List Tok} {c : Cla} (h : clauT E t T = .ok (c, T')) : okW c.word = true := by
  unfold clauT at h
  by_cases hA : isAddrW t.text = true
  · rw [if_pos hA] at h
    obtain ⟨y, _, h2⟩ := bind_ok h
    obtain ⟨z, _, h3⟩ := map_ok h2
    cases h3
    unfold okW
    rw [show (Cla.word _) = t.text from rfl, hA]; rfl
  · rw [if_neg hA] at h
    by_cases hP : isPortW t.text = true
    · rw [if_pos hP] at h
      obtain ⟨y, _, h2⟩ := bind_ok h
      obtain ⟨z, _, h3⟩ := map_ok h2
      cases h3
      unfold okW
      rw [show (Cla.word _) = t.text from rfl, hP]; simp
    · rw [if_neg hP] at h
      by_cases hQ : (t.text == wProto) = true
      · rw [if_pos hQ] at h
        obtain ⟨z, _, h3⟩ := map_ok h
        cases h3
        unfold okW
        rw [show (Cla.word _) = t.text from rfl, hQ]; simp
      · rw [if_neg hQ] at h
        cases h
theorem Eats.len {T T' : List Tok} (h : Eats T T') : T'.length ≤ T.length := by
  obtain ⟨A, rfl, _⟩ := h
  simp
/-- How many tokens are left, as memory has it. -/
def restN (w : World) (g : Nat) : Nat := match w.heap[g]? with | some (Obj.cells cs _ _) => (match cs[0]? with | some (Value.slice _ n _) => n | _ => 0) | _ => 0
theorem rest_is {W0 w : World} {g E : Nat} {T : List Tok} (h : Rd W0 w g E T) : restN w g = T.length := by
  obtain ⟨_, _, v, h2, h3⟩ := h
  obtain ⟨o, cap, rfl, _, _⟩ := h3.slice
  unfold restN
  rw [h2]
  rfl
/-- Clauses in memory that are one's own, down to their numbers. -/
def FigsR (B : Nat) (w : World) (c : Cla) (u : Value) : Prop := FigsOwn B w c.nums u
def ClasOwn (B : Nat) (w : World) (C : List Cla) (v : Value) : Prop := NOwn ClaE claV (FigsR B) w B v C
theorem ClasOwn.by {w w' : World} {g B : Nat} (hgr : w.grownBy w' (some g)) (hB : g < B) {C : List Cla} {v : Value} (h : ClasOwn B w C v) : ClasOwn B w' C v := by
  obtain ⟨P, h1, h2, h3⟩ := h
  exact ⟨P, h1, own_by hgr hB h2, fun p hp => own_by hgr hB (h3 p hp)⟩
theorem ClasOwn.below {w w' : World} {B : Nat} (hb : Below w.heap.size w w') {C : List Cla} {v : Value} (h : ClasOwn B w C v) : ClasOwn B w' C v := by
  obtain ⟨P, h1, h2, h3⟩ := h
  exact ⟨P, h1, gown_below h2 hb, fun p hp => gown_below (h3 p hp) hb⟩
theorem figs_slice {B : Nat} {w : World} {c : Cla} {u : Value} (h : FigsR B w c u) : ∃ o n m, u = .slice o n m := by
  obtain ⟨o, cap, e⟩ := gown_slice h
  exact ⟨o, _, cap, e⟩

set_option maxHeartbeats 8000000 in
theorem clauses_any (W0 w : World) (g E : Nat) (T : List Tok) (hTl : T.length ≤ 5000) (h : Rd W0 w g E T) :
    Calls Tryz.prog 97 #[.pointer (some ⟨g, 0, none⟩)] w fun e w' => Took W0 w g E (ClasOwn w.heap.size) (takeCs E T.length [] T) e w' := by
  have CP : Hid (∀ W T, Rd W0 W g E T → Calls Tryz.prog 70 #[.pointer (some ⟨g, 0, none⟩)] W fun e w' => e = .returned (.agg (encT (hd E T))) ∧ Below W.heap.size W w') := fun W T h => peek_any W0 W g E T h
  have CK : Hid (∀ W T, Rd W0 W g E T → Calls Tryz.prog 71 #[.pointer (some ⟨g, 0, none⟩), .int .i64 1] W fun e w' => Took W0 W g E (fun _ t v => v = .agg (encT t)) (takeK E 1 T) e w') := fun W T h => take_any W0 W g E 1 (by decide) T h
  have CC : Hid (∀ W t T, Rd W0 W g E T → Calls Tryz.prog 115 #[.pointer (some ⟨g, 0, none⟩), .agg (encT t)] W fun e w' => Took W0 W g E (ClaR W.heap.size) (clauT E t T) e w') := fun W t T h => clause_any W0 W g E t T h
  have CS : Hid (∀ W v C, ClasOwn w.heap.size W C v → ∀ k t, W.heap[k]? = some (.cells (encT t) 117 (0, 0)) → Calls Tryz.prog 99 #[v, .func (.func 114) #[] #[.pointer (some ⟨k, 0, none⟩)]] W fun e w' => e = .returned (.bool (C.any (fun c => c.word == t.text))) ∧ Below W.heap.size W w') := fun W v C hC k t hk => containsFunc_any (R := FigsR w.heap.size) (fun _ _ _ h => figs_slice h) W v C (NOwn.sl (fun _ _ => rfl) hC) k t hk
  have hmf : ∀ (fn : Fn) (first cap : Array Value) (w : World), (Instr.makeFunc fn first cap).run Tryz.prog w = .ok (.func fn first cap) w := fun _ _ _ _ => rfl
  have hgl := h.size
  have H : Hid (Rd W0 w g E T) := h
  obtain ⟨A, hA⟩ : ∃ A, A = takeCs E T.length [] T := ⟨_, rfl⟩
  rw [← hA]
  have HA0 : Hid (A = takeCs E T.length [] T) := hA
  clear h hA
  go_enter Tryz.func97, Tryz.ntmps97
  go_wp2_with fail
  go_loopw [3] (fun out wr => ∃ (f : Nat) (had : List Cla) (T1 : List Tok), T1.length ≤ f ∧ had.length + T1.length ≤ 5000 ∧ Hid (∀ c ∈ had, okW c.word = true) ∧ Hid (A = takeCs E f had T1) ∧ w.grownBy wr (some g) ∧ Rd W0 wr g E T1 ∧ ClasOwn w.heap.size wr had out) (fun _ wr => restN wr g)
  case atStart => exact ⟨T.length, [], T, Nat.le_refl _, by simpa using hTl, fun c hc => by simp at hc, HA0, gb_refl _ _, H.out, NOwn.nil _ _ _ _ _⟩
  case round =>
    obtain ⟨f, had, T1, hf, hl, HV, HA, hg, R1, hown⟩ := hrel
    have OWN : Hid (ClasOwn w.heap.size wr had u3) := hown
    have HG : Hid (w.grownBy wr (some g)) := hg
    have HR : Hid (Rd W0 wr g E T1) := R1
    clear hown hg R1 HA0
    have hf0 := tok_f0 (hd E T1)
    by_cases hk : (hd E T1).kind = 1
    · obtain ⟨T2, hT2, hK⟩ := takeK_yes (by decide) hk
      have hk' : (((hd E T1).kind : Int) == 1) = true := by simp; omega
      obtain ⟨t, ht⟩ : ∃ t, t = hd E T1 := ⟨_, rfl⟩
      have HT1 : Hid (T1 = t :: T2) := by show _ = _; rw [ht]; exact hT2
      have hl2 : had.length + T2.length + 1 ≤ 5000 := by rw [hT2] at hl; simp at hl; omega
      have hf2 : T2.length + 1 ≤ f := by rw [hT2] at hf; simpa using hf
      obtain ⟨f', rfl⟩ : ∃ f', f = f' + 1 := ⟨f - 1, by omega⟩
      have HA2 : Hid (A = (takeC E had t T2).bind fun x => takeCs E f' (had ++ [x.1]) x.2) := by
        show _ = _
        rw [HA.out, HT1.out, takeCs, if_pos (by rw [ht]; exact hk)]
      have HRest : Hid (restN wr g = T2.length + 1) := by show _ = _; rw [rest_is HR.out, HT1.out]; rfl
      rw [← ht] at hf0 hk' hK
      have HK : Hid (takeK E 1 T1 = .ok (t, T2)) := hK
      clear hk hT2 hK HA hl hf
      go_wp2_with fail
      refine (CP.out _ T1 HR.out).mono ?_
      rw [← ht]
      clear ht
      rintro e w1 ⟨rfl, hb1⟩
      have HR1 : Hid (Rd W0 w1 g E T1) := HR.out.below hb1
      have HG1 : Hid (w.grownBy w1 (some g)) := grown_trans HG.out (grown_below hb1)
      have OWN1 : Hid (ClasOwn w.heap.size w1 had u3) := OWN.out.below hb1
      clear hb1
      go_wp2_with fail
      refine (CK.out _ T1 HR1.out).mono ?_
      rw [HK.out]
      rintro e w2 ⟨hg2, ⟨v, rfl, rfl⟩, R2⟩
      have HG2 : Hid (w.grownBy w2 (some g)) := grown_trans HG1.out hg2
      have OWN2 : Hid (ClasOwn w.heap.size (w2.alloc (.cells (encT t) 117)) had u3) := (OWN1.out.by hg2 hgl.2).below ((Below.refl _ _).alloc (Nat.le_refl _) _)
      have HR2 : Hid (Rd W0 (w2.alloc (.cells (encT t) 117)) g E T2) := R2.alloc _
      have HT : Hid ((w2.alloc (.cells (encT t) 117)).heap[w2.heap.size]? = some (.cells (encT t) 117 (0, 0))) := heap_new _ _ _ rfl
      clear hg2 R2
      go_wp2_with (first
        | (refine wl_storeE (E := TokE) TokOk rfl _ _ rfl w2.heap.size (encT t) (tv_fits _ _ _ _) rfl rfl _ (heap_new _ _ _ rfl) rfl _ (setRow_new _ _ _ _ _ rfl) ?_))
      refine (CS.out _ u3 had OWN2.out w2.heap.size t HT.out).mono ?_
      rintro e w4 ⟨rfl, hb4⟩
      have ht4 : w4.heap[w2.heap.size]? = some (.cells (encT t) 117 (0, 0)) := (hb4.block _ (by simp)).trans HT.out
      obtain ⟨_, t1, _, _⟩ := tok_cells ht4
      have HT4 : Hid (w4.heap[w2.heap.size]? = some (.cells (encT t) 117 (0, 0))) := ht4
      have HG4 : Hid (w.grownBy w4 (some g)) := grown_trans (gb_alloc HG2.out _) (grown_below hb4)
      have OWN4 : Hid (ClasOwn w.heap.size w4 had u3) := OWN2.out.below hb4
      have HR4 : Hid (Rd W0 w4 g E T2) := HR2.out.below hb4
      clear hb4 ht4
      by_cases hd2 : had.any (fun c => c.word == t.text) = true
      · have HA3 : Hid (A = .error (9, t.pos)) := by
          show _ = _
          rw [HA2.out, takeC_eq E had HV.out, if_pos hd2]; rfl
        rw [hd2]
        clear hd2
        go_wp2_with fail
        rw [HA3.out]
        exact ⟨rfl, HG4.out, rfl⟩
      · have HC3 : Hid (takeC E had t T2 = clauT E t T2) := by
          show _ = _
          rw [takeC_eq E had HV.out, if_neg hd2]
        have HA3 : Hid (A = (clauT E t T2).bind fun x => takeCs E f' (had ++ [x.1]) x.2) := by
          show _ = _
          rw [HA2.out, HC3.out]
        have hd3 : had.any (fun c => c.word == t.text) = false := by simpa using hd2
        rw [hd3]
        clear hd2 hd3 t1
        go_wp2_with (first
          | (refine wl_loadE (E := TokE) TokOk rfl _ rfl w2.heap.size 0 rfl _ _ _ (encT t) rfl HT4.out (own_cells _ _) ?_))
        refine (CC.out _ t T2 HR4.out).mono ?_
        cases hC : clauT E t T2 with
        | error x =>
          obtain ⟨c, q⟩ := x
          have HA4 : Hid (A = .error (c, q)) := by show _ = _; rw [HA3.out, hC]; rfl
          clear hC
          rintro e w5 ⟨hg5, rfl⟩
          go_wp2_with fail
          rw [HA4.out]
          exact ⟨rfl, grown_trans HG4.out hg5, rfl⟩
        | ok x =>
          obtain ⟨c, T3⟩ := x
          have HA4 : Hid (A = takeCs E f' (had ++ [c]) T3) := by show _ = _; rw [HA3.out, hC]; rfl
          have hle := (eats_C (HC3.out.trans hC)).len
          have HV4 : Hid (∀ d ∈ had ++ [c], okW d.word = true) := fun d hd => by
            rcases List.mem_append.1 hd with hd | hd
            · exact HV.out d hd
            · rw [List.mem_singleton.1 hd]; exact clauT_ok hC
          clear hC
          rintro e w5 ⟨hg5, ⟨v, rfl, u, rfl, hfig5⟩, R5⟩
          have z4 := HG4.out.size
          have OWN5 : Hid (ClasOwn w.heap.size w5 had u3) := OWN4.out.by hg5 hgl.2
          have HG5 : Hid (w.grownBy w5 (some g)) := grown_trans HG4.out hg5
          have HF5 : Hid (FigsR w.heap.size w5 c u) := gown_base hfig5 z4
          have HR5 : Hid (Rd W0 w5 g E T3) := R5
          obtain ⟨o5, n5, m5, rfl⟩ := figs_slice HF5.out
          clear hg5 hfig5 R5
          go_wp2_with (first
            | (refine wl_buildE (E := ClaE) ClaOk rfl _ rfl (claV c (.slice o5 n5 m5)) rfl rfl ?_)
            | (at_builtin; refine of_stopT ?_))
          unfold StopT
          obtain ⟨P, hP1, hP2, hP3⟩ := OWN5.out
          have HO6 : Hid ((w5.alloc (.cells (claV c (.slice o5 n5 m5)) 129)).ownsRow w.heap.size 129 5 u3 P.length (gcells (fun p : Cla × Value => claV p.1 p.2) P)) := hP2.alloc _
          have hPl : P.length = had.length := by rw [← hP1, List.length_map]
          have z5 := HG5.out.size
          refine wl_appendE (E := ClaE) ClaOk (fun p : Cla × Value => claV p.1 p.2) rfl _ _ rfl w.heap.size _ P (c, .slice o5 n5 m5) (cla_fits _ _ ⟨_, _, _, rfl⟩) rfl HO6.out _ 1 rfl (heap_new _ _ _ rfl) (by omega) (by simp; omega) ?_
          intro v' w6 hown6 hgr6 _
          have apart : ∀ (d : Cla) (x : Value), FigsR w.heap.size w5 d x → FigsR w.heap.size w6 d x := fun d x hx => own_grown hgr6 (hx.alloc _) (own_apart HO6.out (hx.alloc _) (by decide))
          have HOWN6 : Hid (ClasOwn w.heap.size w6 (had ++ [c]) v') := NOwn.snoc hP1 hown6 (fun p hp => apart _ _ (hP3 p hp)) (apart _ _ HF5.out)
          have HG6 : Hid (w.grownBy w6 (some g)) := gb_own (gb_alloc HG5.out _) hgr6 fun k hk => (HO6.out.lt k hk).1
          have HR6 : Hid (Rd W0 w6 g E T3) := rd_own (HR5.out.alloc _) hgr6 fun k hk => Nat.lt_of_lt_of_le hgl.2 (HO6.out.lt k hk).1
          obtain ⟨o6, cap6, rfl⟩ := gown_slice hown6
          clear hown6 hgr6 apart hP1 hP2 hP3 hPl HO6
          simp only [Act.put, List.setIfInBounds_toArray, List.set_cons_succ, List.set_cons_zero]
          go_wp2_with fail
          go_roundw
          case rel => exact ⟨f', had ++ [c], T3, by omega, by simp; omega, HV4, HA4, HG6.out, HR6.out, HOWN6.out⟩
          case measure => rw [HRest.out, rest_is HR6.out]; omega
    · have hk' : (((hd E T1).kind : Int) == 1) = false := by simp; omega
      have HA2 : Hid (A = .ok (had, T1)) := by
        show _ = _
        rw [HA.out]
        cases T1 with
        | nil => cases f <;> rfl
        | cons t T2 =>
          obtain ⟨f', rfl⟩ : ∃ f', f = f' + 1 := ⟨f - 1, by simp at hf; omega⟩
          exact if_neg hk
      clear hk HA
      go_wp2_with fail
      refine (CP.out _ T1 HR.out).mono ?_
      obtain ⟨t, ht⟩ : ∃ t, t = hd E T1 := ⟨_, rfl⟩
      rw [← ht] at hf0 hk' ⊢
      clear ht
      rintro e w1 ⟨rfl, hb1⟩
      go_wp2_with fail
      go_ret
      rw [HA2.out]
      exact ⟨grown_trans HG.out (grown_below hb1), ⟨_, rfl, OWN.out.below hb1⟩, HR.out.below hb1⟩
end Go.Proofs.YtnbklmmampdbfaaGreatDoor
namespace Go.Proofs.YtnbklmmampdbfaaGreatDoor
open Go Go.RowKit
set_option maxRecDepth 20000

/-- A line up to what ends it. -/
def lineT (E : Nat) (T : List Tok) : Res (Raw × List Tok) :=
  (takeH E T).bind fun x => (takeK E 6 x.2).bind fun y => (takeA E y.2).map fun z => (⟨(posOf E T : Int), x.1.1, x.1.2.1, x.1.2.2, z.1.1, z.1.2⟩, z.2)
theorem takeR_line (E : Nat) (T : List Tok) : takeR E T = (lineT E T).bind fun x => (takeE x.2).map fun u => (x.1, u) := by
  unfold takeR lineT
  cases takeH E T with
  | error x => rfl
  | ok x =>
    show (takeK E 6 x.2).bind _ = ((takeK E 6 x.2).bind _).bind _
    cases takeK E 6 x.2 with
    | error y => rfl
    | ok y =>
      show (takeA E y.2).bind _ = ((takeA E y.2).map _).bind _
      cases takeA E y.2 with
      | error z => rfl
      | ok z => rfl
def RawR (B : Nat) (w : World) (x : Raw) (v : Value) : Prop := ∃ u, v = .agg (rawV x u) ∧ ClasOwn B w x.clauses u
theorem raw_fits (x : Raw) (u : Value) (hu : ∃ o n k, u = .slice o n k) : Fits RawE (rawV x u) := by
  obtain ⟨o, n, k, rfl⟩ := hu
  exact ⟨rfl, by simp [rawV, Value.oneCell']⟩
theorem store_fig (W : World) (p off : Nat) (cs : Array Value) (ty : TypeId) (hp : W.heap[p]? = some (.cells cs ty (0, 0))) (ho : off + 2 ≤ cs.size) (f : Fig) :
    (storeCells ⟨p, off, none⟩ (figV f).toList).run Tryz.prog W = .ok () ((W.setCell ⟨p, off, none⟩ (.int .i64 f.n)).setCell ⟨p, off + 1, none⟩ (.int .i64 f.pos)) := by
  obtain ⟨x, hx⟩ : ∃ x, W.cell? ⟨p, off, none⟩ = some x := ⟨cs[off], by rw [cell_of_row _ _ _ _ _ _ hp, Array.getElem?_eq_getElem (by omega)]⟩
  have hz : W.frozen? ⟨p, off, none⟩ = false := tc_frozen hp rfl
  have hp2 := tc_row (k := off) hp (.int .i64 f.n)
  obtain ⟨y, hy⟩ : ∃ y, (W.setCell ⟨p, off, none⟩ (.int .i64 f.n)).cell? ⟨p, off + 1, none⟩ = some y := ⟨_, by rw [cell_of_row _ _ _ _ _ _ hp2, Array.getElem?_setIfInBounds_ne (by omega), Array.getElem?_eq_getElem (by omega)]⟩
  have hz2 : (W.setCell ⟨p, off, none⟩ (.int .i64 f.n)).frozen? ⟨p, off + 1, none⟩ = false := tc_frozen hp2 rfl
  simp [figV, go_sem, hx, hz, hy, hz2]
theorem clas_set {w : World} {B : Nat} {C : List Cla} {v : Value} (h : ClasOwn B w C v) {p i : Nat} {cs : Array Value} {fr : Nat × Nat} (hp : w.heap[p]? = some (.cells cs 92 fr)) (y : Value) : ClasOwn B (w.setCell ⟨p, i, none⟩ y) C v := by
  obtain ⟨P, h1, h2, h3⟩ := h
  exact ⟨P, h1, own_set h2 hp (by decide) y, fun q hq => own_set (h3 q hq) hp (by decide) y⟩
theorem clas_setRow {w : World} {B : Nat} {C : List Cla} {v : Value} (h : ClasOwn B w C v) {p : Nat} {cs : Array Value} {fr : Nat × Nat} (hp : w.heap[p]? = some (.cells cs 92 fr)) (ys : Array Value) : ClasOwn B (w.setRow p ys) C v := by
  obtain ⟨P, h1, h2, h3⟩ := h
  exact ⟨P, h1, own_setRow6 h2 hp (by decide) ys, fun q hq => own_setRow6 (h3 q hq) hp (by decide) ys⟩
theorem clas_base {w : World} {B B' : Nat} {C : List Cla} {v : Value} (h : ClasOwn B w C v) (hB : B' ≤ B) : ClasOwn B' w C v := by
  obtain ⟨P, h1, h2, h3⟩ := h
  exact ⟨P, h1, gown_base h2 hB, fun q hq => gown_base (h3 q hq) hB⟩
theorem clas_slice {w : World} {B : Nat} {C : List Cla} {v : Value} (h : ClasOwn B w C v) : ∃ o n m, v = .slice o n m := by
  obtain ⟨P, _, h2, _⟩ := h
  obtain ⟨o, cap, e⟩ := gown_slice h2
  exact ⟨o, _, cap, e⟩
theorem clas_nil (w : World) (B : Nat) : ClasOwn B w [] (.slice none 0 0) := NOwn.nil _ _ _ _ _

set_option maxHeartbeats 8000000 in
set_option maxRecDepth 10000 in
theorem line_any (W0 w : World) (g E : Nat) (t : Tok) (T : List Tok) (hTl : (t :: T).length ≤ 5000) (hw : t.text = wDefault → t.kind = 1) (h : Rd W0 w g E (t :: T)) :
    Calls Tryz.prog 72 #[.pointer (some ⟨g, 0, none⟩)] w fun e w' => Took W0 w g E (RawR w.heap.size) (lineT E (t :: T)) e w' := by
  have CP : Hid (∀ W T, Rd W0 W g E T → Calls Tryz.prog 70 #[.pointer (some ⟨g, 0, none⟩)] W fun e w' => e = .returned (.agg (encT (hd E T))) ∧ Below W.heap.size W w') := fun W T h => peek_any W0 W g E T h
  have CF : Hid (∀ W T, Rd W0 W g E T → Calls Tryz.prog 96 #[.pointer (some ⟨g, 0, none⟩)] W fun e w' => Took W0 W g E (fun _ f v => v = .agg (figV f)) (takeF E T) e w') := fun W T h => figure_any W0 W g E T h
  have CK1 : Hid (∀ W T, Rd W0 W g E T → Calls Tryz.prog 71 #[.pointer (some ⟨g, 0, none⟩), .int .i64 1] W fun e w' => Took W0 W g E (fun _ t v => v = .agg (encT t)) (takeK E 1 T) e w') := fun W T h => take_any W0 W g E 1 (by decide) T h
  have CK6 : Hid (∀ W T, Rd W0 W g E T → Calls Tryz.prog 71 #[.pointer (some ⟨g, 0, none⟩), .int .i64 6] W fun e w' => Took W0 W g E (fun _ t v => v = .agg (encT t)) (takeK E 6 T) e w') := fun W T h => take_any W0 W g E 6 (by decide) T h
  have CC : Hid (∀ W T, T.length ≤ 5000 → Rd W0 W g E T → Calls Tryz.prog 97 #[.pointer (some ⟨g, 0, none⟩)] W fun e w' => Took W0 W g E (ClasOwn W.heap.size) (takeCs E T.length [] T) e w') := fun W T hl h => clauses_any W0 W g E T hl h
  have CA : Hid (∀ W T, Rd W0 W g E T → Calls Tryz.prog 98 #[.pointer (some ⟨g, 0, none⟩)] W fun e w' => Took W0 W g E (fun _ a v => ActV v a) (takeA E T) e w') := fun W T h => action_any W0 W g E T h
  have hgl := h.size
  have H : Hid (Rd W0 w g E (t :: T)) := h
  obtain ⟨A, hA⟩ : ∃ A, A = lineT E (t :: T) := ⟨_, rfl⟩
  rw [← hA]
  unfold lineT at hA
  have hwT : posOf E (t :: T) = t.pos := rfl
  rw [hwT] at hA
  clear h hwT
  go_enter Tryz.func72, Tryz.ntmps72
  go_wp2_with fail
  refine (CP.out _ (t :: T) (H.out.alloc _)).mono ?_
  rintro e w1 ⟨rfl, hb1⟩
  have B1 : Below w.heap.size w w1 := ((Below.refl _ _).alloc (Nat.le_refl _) _).trans (hb1.mono (by simp))
  have z1 : w.heap.size < w1.heap.size := by have := hb1.size; simp at this; omega
  have r0 : w1.heap[w.heap.size]? = some (.cells (rawV ⟨0, false, ⟨0, 0⟩, [], false, ⟨0, 0⟩⟩ (.slice none 0 0)) 92 (0, 0)) := (hb1.block _ (by simp)).trans (heap_new _ _ _ rfl)
  have HR1 : Hid (Rd W0 w1 g E (t :: T)) := H.out.below B1
  have HG1 : Hid (w.grownBy w1 (some g)) := grown_below B1
  have HR0 : Hid (w1.heap[w.heap.size]? = some (.cells (rawV ⟨0, false, ⟨0, 0⟩, [], false, ⟨0, 0⟩⟩ (.slice none 0 0)) 92 (0, 0))) := r0
  have q1 := tok_cells (heap_new w1 (.cells (encT t) 117) _ rfl)
  have q2 := fun x => tok_cells (heap_past _ x _ _ (heap_new w1 (.cells (encT t) 117) _ rfl))
  have t1 := q1.2.1
  have t2 := fun x => (q2 x).2.2.1
  clear q1 q2 hb1 B1 r0
  have hhd : hd E (t :: T) = t := rfl
  rw [hhd]
  clear hhd
  have LN : Hid (((w1.alloc (.cells (encT t) 117)).alloc (.cells (rawV ⟨(t.pos : Int), false, ⟨0, 0⟩, [], false, ⟨0, 0⟩⟩ (.slice none 0 0)) 92)).heap[w1.heap.size + 1]? = some (.cells (rawV ⟨(t.pos : Int), false, ⟨0, 0⟩, [], false, ⟨0, 0⟩⟩ (.slice none 0 0)) 92 (0, 0))) := heap_new _ _ _ (by simp)
  by_cases hd : t.text = wDefault
  · have e1 : (t.text == [100, 101, 102, 97, 117, 108, 116]) = true := by rw [hd]; rfl
    have hH : takeH E (t :: T) = .ok ((true, ⟨0, 0⟩, []), T) := if_pos ⟨hw hd, hd⟩
    have hK1 : takeK E 1 (t :: T) = .ok (t, T) := if_pos (hw hd)
    rw [hH] at hA
    have HA : Hid (A = (takeK E 6 T).bind fun y => (takeA E y.2).map fun z => (⟨(t.pos : Int), true, ⟨0, 0⟩, [], z.1.1, z.1.2⟩, z.2)) := hA
    clear hA hH hd hw
    go_wp2_with (first
      | (refine wl_storeE (E := TokE) TokOk rfl _ _ rfl w1.heap.size (encT t) (tv_fits _ _ _ _) rfl rfl _ (heap_new _ _ _ rfl) rfl _ (setRow_new _ _ _ _ _ rfl) ?_)
      | (refine wl_storeE (E := RawE) RawOk rfl _ _ rfl (w1.heap.size + 1) (rawV ⟨(t.pos : Int), false, ⟨0, 0⟩, [], false, ⟨0, 0⟩⟩ (.slice none 0 0)) (raw_fits _ _ ⟨_, _, _, rfl⟩) rfl rfl _ (heap_new _ _ _ (by simp)) rfl _ (setRow_new _ _ _ _ _ (by simp)) ?_))
    refine (CK1.out _ (t :: T) ((HR1.out.alloc _).alloc _)).mono ?_
    rw [hK1]
    clear hK1
    rintro e w2 ⟨hg2, ⟨v, rfl, rfl⟩, R2⟩
    have z2 : w1.heap.size + 2 ≤ w2.heap.size := by have := hg2.size; simp at this; omega
    have rP2 : w2.heap[w1.heap.size + 1]? = some (.cells (rawV ⟨(t.pos : Int), false, ⟨0, 0⟩, [], false, ⟨0, 0⟩⟩ (.slice none 0 0)) 92 (0, 0)) := (hg2.block _ (by simp) (by simp; omega)).trans LN.out
    have r02 : w2.heap[w.heap.size]? = some (.cells (rawV ⟨0, false, ⟨0, 0⟩, [], false, ⟨0, 0⟩⟩ (.slice none 0 0)) 92 (0, 0)) := (hg2.block _ (by simp; omega) (by simp; omega)).trans (heap_past _ _ _ _ (heap_past _ _ _ _ HR0.out))
    have c1 : w2.cell? ⟨w1.heap.size + 1, 1, none⟩ = some (.bool false) := by rw [cell_of_row _ _ _ _ _ _ rP2]; rfl
    have f1 : w2.frozen? ⟨w1.heap.size + 1, 1, none⟩ = false := tc_frozen rP2 rfl
    have K3 : Hid (Rd W0 (w2.setCell ⟨w1.heap.size + 1, 1, none⟩ (.bool true)) g E T ∧ w.grownBy (w2.setCell ⟨w1.heap.size + 1, 1, none⟩ (.bool true)) (some g) ∧ (w2.setCell ⟨w1.heap.size + 1, 1, none⟩ (.bool true)).heap[w1.heap.size + 1]? = some (.cells (rawV ⟨(t.pos : Int), true, ⟨0, 0⟩, [], false, ⟨0, 0⟩⟩ (.slice none 0 0)) 92 (0, 0)) ∧ (w2.setCell ⟨w1.heap.size + 1, 1, none⟩ (.bool true)).heap[w.heap.size]? = some (.cells (rawV ⟨0, false, ⟨0, 0⟩, [], false, ⟨0, 0⟩⟩ (.slice none 0 0)) 92 (0, 0)) ∧ ClasOwn w.heap.size (w2.setCell ⟨w1.heap.size + 1, 1, none⟩ (.bool true)) [] (.slice none 0 0)) :=
      ⟨rd_setCell R2 (by omega) (by omega) _ _, gb_setCell (grown_trans (gb_alloc (gb_alloc HG1.out _) _) hg2) (.inr (by omega)) _ _, tc_row rP2 _, (tc_far (by omega) _).trans r02, clas_nil _ _⟩
    clear hg2 R2 rP2 r02 LN HR1 HG1 HR0 t1 t2
    go_wp2_with fail
    refine (CK6.out _ T K3.out.1).mono ?_
    clear c1 f1
    obtain ⟨w3, hw3⟩ : ∃ w3, w3 = w2.setCell ⟨w1.heap.size + 1, 1, none⟩ (.bool true) := ⟨_, rfl⟩
    rw [← hw3] at K3 ⊢
    have z3 : w2.heap.size ≤ w3.heap.size := by rw [hw3, tc_size]; exact Nat.le_refl _
    clear hw3
    cases hK : takeK E 6 T with
    | error x =>
      obtain ⟨c, q⟩ := x
      rw [hK] at HA
      clear hK
      rintro e w4 ⟨hg4, rfl⟩
      go_wp2_with fail
      rw [HA.out]
      exact ⟨rfl, grown_trans K3.out.2.1 hg4, rfl⟩
    | ok x =>
      obtain ⟨t6, T3⟩ := x
      rw [hK] at HA
      clear hK
      rintro e w4 ⟨hg4, ⟨v, rfl, rfl⟩, R4⟩
      have z4 := hg4.size
      have K4 : Hid (Rd W0 w4 g E T3 ∧ w.grownBy w4 (some g) ∧ w4.heap[(w1.heap.size + 1)]? = some (.cells (rawV ⟨(t.pos : Int), true, ⟨0, 0⟩, [], false, ⟨0, 0⟩⟩ (.slice none 0 0)) 92 (0, 0)) ∧ w4.heap[w.heap.size]? = some (.cells (rawV ⟨0, false, ⟨0, 0⟩, [], false, ⟨0, 0⟩⟩ (.slice none 0 0)) 92 (0, 0)) ∧ ClasOwn w.heap.size w4 [] (.slice none 0 0)) :=
        ⟨R4, grown_trans K3.out.2.1 hg4, (hg4.block _ (by omega) (by simp; omega)).trans K3.out.2.2.1, (hg4.block _ (by omega) (by simp; omega)).trans K3.out.2.2.2.1, K3.out.2.2.2.2.by hg4 hgl.2⟩
      clear hg4 R4 K3
      go_wp2_with fail
      refine (CA.out _ T3 K4.out.1).mono ?_
      cases hAc : takeA E T3 with
      | error x =>
        obtain ⟨c, q⟩ := x
        have HA2 : Hid (A = .error (c, q)) := by show _ = _; rw [HA.out]; show (takeA E T3).map _ = _; rw [hAc]; rfl
        clear hAc HA
        rintro e w5 ⟨hg5, rfl⟩
        go_wp2_with fail
        rw [HA2.out]
        exact ⟨rfl, grown_trans K4.out.2.1 hg5, rfl⟩
      | ok x =>
        obtain ⟨⟨b, po⟩, T4⟩ := x
        have HA2 : Hid (A = .ok ((⟨(t.pos : Int), true, ⟨0, 0⟩, [], b, po⟩ : Raw), T4)) := by show _ = _; rw [HA.out]; show (takeA E T3).map _ = _; rw [hAc]; rfl
        clear hAc HA
        rintro e w5 ⟨hg5, ⟨v, rfl, hv⟩, R5⟩
        unfold ActV at hv
        subst hv
        have z5 := hg5.size
        have rP5 : w5.heap[(w1.heap.size + 1)]? = some (.cells (rawV ⟨(t.pos : Int), true, ⟨0, 0⟩, [], false, ⟨0, 0⟩⟩ (.slice none 0 0)) 92 (0, 0)) := (hg5.block _ (by omega) (by simp; omega)).trans K4.out.2.2.1
        have r05 : w5.heap[w.heap.size]? = some (.cells (rawV ⟨0, false, ⟨0, 0⟩, [], false, ⟨0, 0⟩⟩ (.slice none 0 0)) 92 (0, 0)) := (hg5.block _ (by omega) (by simp; omega)).trans K4.out.2.2.2.1
        have G5 : w.grownBy w5 (some g) := grown_trans K4.out.2.1 hg5
        have O5 := K4.out.2.2.2.2.by hg5 hgl.2
        have c5 : w5.cell? ⟨(w1.heap.size + 1), 5, none⟩ = some (.bool false) := by rw [cell_of_row _ _ _ _ _ _ rP5]; rfl
        have f5 : w5.frozen? ⟨(w1.heap.size + 1), 5, none⟩ = false := tc_frozen rP5 rfl
        have rP6 := tc_row (k := 5) rP5 (.bool b)
        have hst := store_fig (w5.setCell ⟨(w1.heap.size + 1), 5, none⟩ (.bool b)) (w1.heap.size + 1) 6 _ _ rP6 (by simp [rawV]) po
        have hex0 : ∀ W, (Instr.extract (.tuple #[.bool b, .agg (figV po)]) 0).run Tryz.prog W = .ok (.bool b) W := fun W => by kernel_rfl
        have hex1 : ∀ W, (Instr.extract (.tuple #[.bool b, .agg (figV po)]) 1).run Tryz.prog W = .ok (.agg (figV po)) W := fun W => by kernel_rfl
        have rP8 : Hid ((((w5.setCell ⟨(w1.heap.size + 1), 5, none⟩ (.bool b)).setCell ⟨(w1.heap.size + 1), 6, none⟩ (.int .i64 po.n)).setCell ⟨(w1.heap.size + 1), 6 + 1, none⟩ (.int .i64 po.pos)).heap[(w1.heap.size + 1)]? = some (.cells (rawV ⟨(t.pos : Int), true, ⟨0, 0⟩, [], b, po⟩ (.slice none 0 0)) 92 (0, 0))) := tc_row (tc_row rP6 _) _
        have r08 : Hid ((((w5.setCell ⟨(w1.heap.size + 1), 5, none⟩ (.bool b)).setCell ⟨(w1.heap.size + 1), 6, none⟩ (.int .i64 po.n)).setCell ⟨(w1.heap.size + 1), 6 + 1, none⟩ (.int .i64 po.pos)).heap[w.heap.size]? = some (.cells (rawV ⟨0, false, ⟨0, 0⟩, [], false, ⟨0, 0⟩⟩ (.slice none 0 0)) 92 (0, 0))) := (tc_far (by omega) _).trans ((tc_far (by omega) _).trans ((tc_far (by omega) _).trans r05))
        have O8 : Hid (ClasOwn w.heap.size (((w5.setCell ⟨(w1.heap.size + 1), 5, none⟩ (.bool b)).setCell ⟨(w1.heap.size + 1), 6, none⟩ (.int .i64 po.n)).setCell ⟨(w1.heap.size + 1), 6 + 1, none⟩ (.int .i64 po.pos)) [] (.slice none 0 0)) := clas_set (clas_set (clas_set O5 rP5 _) rP6 _) (tc_row rP6 _) _
        have G8 : Hid (w.grownBy (((w5.setCell ⟨(w1.heap.size + 1), 5, none⟩ (.bool b)).setCell ⟨(w1.heap.size + 1), 6, none⟩ (.int .i64 po.n)).setCell ⟨(w1.heap.size + 1), 6 + 1, none⟩ (.int .i64 po.pos)) (some g)) := gb_setCell (gb_setCell (gb_setCell G5 (.inr (by omega)) _ _) (.inr (by omega)) _ _) (.inr (by omega)) _ _
        have R8 : Hid (Rd W0 (((w5.setCell ⟨(w1.heap.size + 1), 5, none⟩ (.bool b)).setCell ⟨(w1.heap.size + 1), 6, none⟩ (.int .i64 po.n)).setCell ⟨(w1.heap.size + 1), 6 + 1, none⟩ (.int .i64 po.pos)) g E T4) := rd_setCell (rd_setCell (rd_setCell R5 (by omega) (by omega) _ _) (by omega) (by omega) _ _) (by omega) (by omega) _ _
        clear rP5 r05 rP6 G5 O5 R5 hg5 K4
        go_wp2_with (first
          | (refine wl_loadE (E := RawE) RawOk rfl _ rfl (w1.heap.size + 1) 0 rfl _ _ _ (rawV ⟨(t.pos : Int), true, ⟨0, 0⟩, [], b, po⟩ (.slice none 0 0)) rfl rP8.out (own_cells _ _) ?_)
          | (refine wl_storeE (E := RawE) RawOk rfl _ _ rfl w.heap.size (rawV ⟨(t.pos : Int), true, ⟨0, 0⟩, [], b, po⟩ (.slice none 0 0)) (raw_fits _ _ ⟨_, _, _, rfl⟩) rfl rfl _ r08.out rfl _ rfl ?_))
        refine retE (E := RawE) RawOk rfl rfl w.heap.size rfl (rawV ⟨(t.pos : Int), true, ⟨0, 0⟩, [], b, po⟩ (.slice none 0 0)) rfl (setRow_heap _ _ _ _ _ _ r08.out) ?_
        rw [HA2.out]
        exact ⟨gb_setRow G8.out (.inr (Nat.le_refl _)) _, ⟨_, rfl, _, rfl, clas_setRow O8.out r08.out _⟩, rd_setRow R8.out (by omega) (by omega) _⟩
  · have e1 : (t.text == [100, 101, 102, 97, 117, 108, 116]) = false := by rw [beq_eq_false_iff_ne]; exact hd
    have hH : takeH E (t :: T) = (takeF E (t :: T)).bind fun x => (takeCs E x.2.length [] x.2).map fun y => ((false, x.1, y.1), y.2) := if_neg fun hq => hd hq.2
    rw [hH] at hA
    clear hH hd hw
    go_wp2_with (first
      | (refine wl_storeE (E := TokE) TokOk rfl _ _ rfl w1.heap.size (encT t) (tv_fits _ _ _ _) rfl rfl _ (heap_new _ _ _ rfl) rfl _ (setRow_new _ _ _ _ _ rfl) ?_)
      | (refine wl_storeE (E := RawE) RawOk rfl _ _ rfl (w1.heap.size + 1) (rawV ⟨(t.pos : Int), false, ⟨0, 0⟩, [], false, ⟨0, 0⟩⟩ (.slice none 0 0)) (raw_fits _ _ ⟨_, _, _, rfl⟩) rfl rfl _ (heap_new _ _ _ (by simp)) rfl _ (setRow_new _ _ _ _ _ (by simp)) ?_))
    refine (CF.out _ (t :: T) ((HR1.out.alloc _).alloc _)).mono ?_
    cases hF : takeF E (t :: T) with
    | error x =>
      obtain ⟨c, q⟩ := x
      have HA : Hid (A = .error (c, q)) := by show _ = _; rw [hA, hF]; rfl
      clear hA hF
      rintro e w2 ⟨hg2, rfl⟩
      go_wp2_with fail
      rw [HA.out]
      exact ⟨rfl, grown_trans (gb_alloc (gb_alloc HG1.out _) _) hg2, rfl⟩
    | ok x =>
      obtain ⟨pr, T1⟩ := x
      have hT1 : T1.length ≤ 5000 := Nat.le_trans (eats_F hF).len hTl
      rw [hF] at hA
      have HA0 : Hid (A = ((takeCs E T1.length [] T1).map fun y => ((false, pr, y.1), y.2)).bind fun x => (takeK E 6 x.2).bind fun y => (takeA E y.2).map fun z => (⟨(t.pos : Int), x.1.1, x.1.2.1, x.1.2.2, z.1.1, z.1.2⟩, z.2)) := hA
      clear hA hF
      rintro e w2 ⟨hg2, ⟨v, rfl, rfl⟩, R2⟩
      have z2 : w1.heap.size + 2 ≤ w2.heap.size := by have := hg2.size; simp at this; omega
      have rP2 : w2.heap[w1.heap.size + 1]? = some (.cells (rawV ⟨(t.pos : Int), false, ⟨0, 0⟩, [], false, ⟨0, 0⟩⟩ (.slice none 0 0)) 92 (0, 0)) := (hg2.block _ (by simp) (by simp; omega)).trans LN.out
      have r02 : w2.heap[w.heap.size]? = some (.cells (rawV ⟨0, false, ⟨0, 0⟩, [], false, ⟨0, 0⟩⟩ (.slice none 0 0)) 92 (0, 0)) := (hg2.block _ (by simp; omega) (by simp; omega)).trans (heap_past _ _ _ _ (heap_past _ _ _ _ HR0.out))
      have hst := store_fig w2 (w1.heap.size + 1) 2 _ _ rP2 (by simp [rawV]) pr
      have K2 : Hid (Rd W0 ((w2.setCell ⟨(w1.heap.size + 1), 2, none⟩ (.int .i64 pr.n)).setCell ⟨(w1.heap.size + 1), 2 + 1, none⟩ (.int .i64 pr.pos)) g E T1 ∧ w.grownBy ((w2.setCell ⟨(w1.heap.size + 1), 2, none⟩ (.int .i64 pr.n)).setCell ⟨(w1.heap.size + 1), 2 + 1, none⟩ (.int .i64 pr.pos)) (some g) ∧ ((w2.setCell ⟨(w1.heap.size + 1), 2, none⟩ (.int .i64 pr.n)).setCell ⟨(w1.heap.size + 1), 2 + 1, none⟩ (.int .i64 pr.pos)).heap[(w1.heap.size + 1)]? = some (.cells (rawV ⟨(t.pos : Int), false, pr, [], false, ⟨0, 0⟩⟩ (.slice none 0 0)) 92 (0, 0)) ∧ ((w2.setCell ⟨(w1.heap.size + 1), 2, none⟩ (.int .i64 pr.n)).setCell ⟨(w1.heap.size + 1), 2 + 1, none⟩ (.int .i64 pr.pos)).heap[w.heap.size]? = some (.cells (rawV ⟨0, false, ⟨0, 0⟩, [], false, ⟨0, 0⟩⟩ (.slice none 0 0)) 92 (0, 0))) :=
        ⟨rd_setCell (rd_setCell R2 (by omega) (by omega) _ _) (by omega) (by omega) _ _, gb_setCell (gb_setCell (grown_trans (gb_alloc (gb_alloc HG1.out _) _) hg2) (.inr (by omega)) _ _) (.inr (by omega)) _ _, tc_row (tc_row rP2 _) _, (tc_far (by omega) _).trans ((tc_far (by omega) _).trans r02)⟩
      clear hg2 R2 rP2 r02 LN HR1 HG1 HR0 t1 t2
      go_wp2_with fail
      refine (CC.out _ T1 hT1 K2.out.1).mono ?_
      cases hC : takeCs E T1.length [] T1 with
      | error x =>
        obtain ⟨c, q⟩ := x
        have HA : Hid (A = .error (c, q)) := by show _ = _; rw [HA0.out, hC]; rfl
        clear hC HA0
        rintro e w3 ⟨hg3, rfl⟩
        go_wp2_with fail
        rw [HA.out]
        exact ⟨rfl, grown_trans K2.out.2.1 hg3, rfl⟩
      | ok x =>
        obtain ⟨C, T2⟩ := x
        have HA : Hid (A = (takeK E 6 T2).bind fun y => (takeA E y.2).map fun z => (⟨(t.pos : Int), false, pr, C, z.1.1, z.1.2⟩, z.2)) := by show _ = _; rw [HA0.out, hC]; rfl
        clear hC HA0 hst
        rintro e wc ⟨hgc, ⟨v, rfl, hclc⟩, Rc⟩
        have zc : w2.heap.size ≤ wc.heap.size := by have := hgc.size; rw [tc_size, tc_size] at this; exact this
        obtain ⟨o, n, m, rfl⟩ := clas_slice hclc
        have rPc : wc.heap[(w1.heap.size + 1)]? = some (.cells (rawV ⟨(t.pos : Int), false, pr, [], false, ⟨0, 0⟩⟩ (.slice none 0 0)) 92 (0, 0)) := (hgc.block _ (by rw [tc_size, tc_size]; omega) (by simp; omega)).trans K2.out.2.2.1
        have r0c : wc.heap[w.heap.size]? = some (.cells (rawV ⟨0, false, ⟨0, 0⟩, [], false, ⟨0, 0⟩⟩ (.slice none 0 0)) 92 (0, 0)) := (hgc.block _ (by rw [tc_size, tc_size]; omega) (by simp; omega)).trans K2.out.2.2.2
        have c4 : wc.cell? ⟨(w1.heap.size + 1), 4, none⟩ = some (.slice none 0 0) := by rw [cell_of_row _ _ _ _ _ _ rPc]; rfl
        have f4 : wc.frozen? ⟨(w1.heap.size + 1), 4, none⟩ = false := tc_frozen rPc rfl
        have K3 : Hid (Rd W0 (wc.setCell ⟨(w1.heap.size + 1), 4, none⟩ (.slice o n m)) g E T2 ∧ w.grownBy (wc.setCell ⟨(w1.heap.size + 1), 4, none⟩ (.slice o n m)) (some g) ∧ (wc.setCell ⟨(w1.heap.size + 1), 4, none⟩ (.slice o n m)).heap[(w1.heap.size + 1)]? = some (.cells (rawV ⟨(t.pos : Int), false, pr, C, false, ⟨0, 0⟩⟩ (.slice o n m)) 92 (0, 0)) ∧ (wc.setCell ⟨(w1.heap.size + 1), 4, none⟩ (.slice o n m)).heap[w.heap.size]? = some (.cells (rawV ⟨0, false, ⟨0, 0⟩, [], false, ⟨0, 0⟩⟩ (.slice none 0 0)) 92 (0, 0)) ∧ ClasOwn w.heap.size (wc.setCell ⟨(w1.heap.size + 1), 4, none⟩ (.slice o n m)) C (.slice o n m)) :=
          ⟨rd_setCell Rc (by omega) (by omega) _ _, gb_setCell (grown_trans K2.out.2.1 hgc) (.inr (by omega)) _ _, tc_row rPc _, (tc_far (by omega) _).trans r0c, clas_set (clas_base hclc (by rw [tc_size, tc_size]; omega)) rPc _⟩
        clear hgc hclc Rc rPc r0c K2
        go_wp2_with fail
        refine (CK6.out _ T2 K3.out.1).mono ?_
        clear c4 f4
        obtain ⟨w3, hw3⟩ : ∃ w3, w3 = wc.setCell ⟨(w1.heap.size + 1), 4, none⟩ (.slice o n m) := ⟨_, rfl⟩
        rw [← hw3] at K3 ⊢
        have z3 : wc.heap.size ≤ w3.heap.size := by rw [hw3, tc_size]; exact Nat.le_refl _
        clear hw3
        cases hK : takeK E 6 T2 with
        | error x =>
          obtain ⟨c, q⟩ := x
          rw [hK] at HA
          clear hK
          rintro e w4 ⟨hg4, rfl⟩
          go_wp2_with fail
          rw [HA.out]
          exact ⟨rfl, grown_trans K3.out.2.1 hg4, rfl⟩
        | ok x =>
          obtain ⟨t6, T3⟩ := x
          rw [hK] at HA
          clear hK
          rintro e w4 ⟨hg4, ⟨v, rfl, rfl⟩, R4⟩
          have z4 := hg4.size
          have K4 : Hid (Rd W0 w4 g E T3 ∧ w.grownBy w4 (some g) ∧ w4.heap[(w1.heap.size + 1)]? = some (.cells (rawV ⟨(t.pos : Int), false, pr, C, false, ⟨0, 0⟩⟩ (.slice o n m)) 92 (0, 0)) ∧ w4.heap[w.heap.size]? = some (.cells (rawV ⟨0, false, ⟨0, 0⟩, [], false, ⟨0, 0⟩⟩ (.slice none 0 0)) 92 (0, 0)) ∧ ClasOwn w.heap.size w4 C (.slice o n m)) :=
            ⟨R4, grown_trans K3.out.2.1 hg4, (hg4.block _ (by omega) (by simp; omega)).trans K3.out.2.2.1, (hg4.block _ (by omega) (by simp; omega)).trans K3.out.2.2.2.1, K3.out.2.2.2.2.by hg4 hgl.2⟩
          clear hg4 R4 K3
          go_wp2_with fail
          refine (CA.out _ T3 K4.out.1).mono ?_
          cases hAc : takeA E T3 with
          | error x =>
            obtain ⟨c, q⟩ := x
            have HA2 : Hid (A = .error (c, q)) := by show _ = _; rw [HA.out]; show (takeA E T3).map _ = _; rw [hAc]; rfl
            clear hAc HA
            rintro e w5 ⟨hg5, rfl⟩
            go_wp2_with fail
            rw [HA2.out]
            exact ⟨rfl, grown_trans K4.out.2.1 hg5, rfl⟩
          | ok x =>
            obtain ⟨⟨b, po⟩, T4⟩ := x
            have HA2 : Hid (A = .ok ((⟨(t.pos : Int), false, pr, C, b, po⟩ : Raw), T4)) := by show _ = _; rw [HA.out]; show (takeA E T3).map _ = _; rw [hAc]; rfl
            clear hAc HA
            rintro e w5 ⟨hg5, ⟨v, rfl, hv⟩, R5⟩
            unfold ActV at hv
            subst hv
            have z5 := hg5.size
            have rP5 : w5.heap[(w1.heap.size + 1)]? = some (.cells (rawV ⟨(t.pos : Int), false, pr, C, false, ⟨0, 0⟩⟩ (.slice o n m)) 92 (0, 0)) := (hg5.block _ (by omega) (by simp; omega)).trans K4.out.2.2.1
            have r05 : w5.heap[w.heap.size]? = some (.cells (rawV ⟨0, false, ⟨0, 0⟩, [], false, ⟨0, 0⟩⟩ (.slice none 0 0)) 92 (0, 0)) := (hg5.block _ (by omega) (by simp; omega)).trans K4.out.2.2.2.1
            have G5 : w.grownBy w5 (some g) := grown_trans K4.out.2.1 hg5
            have O5 := K4.out.2.2.2.2.by hg5 hgl.2
            have c5 : w5.cell? ⟨(w1.heap.size + 1), 5, none⟩ = some (.bool false) := by rw [cell_of_row _ _ _ _ _ _ rP5]; rfl
            have f5 : w5.frozen? ⟨(w1.heap.size + 1), 5, none⟩ = false := tc_frozen rP5 rfl
            have rP6 := tc_row (k := 5) rP5 (.bool b)
            have hst := store_fig (w5.setCell ⟨(w1.heap.size + 1), 5, none⟩ (.bool b)) (w1.heap.size + 1) 6 _ _ rP6 (by simp [rawV]) po
            have hex0 : ∀ W, (Instr.extract (.tuple #[.bool b, .agg (figV po)]) 0).run Tryz.prog W = .ok (.bool b) W := fun W => by kernel_rfl
            have hex1 : ∀ W, (Instr.extract (.tuple #[.bool b, .agg (figV po)]) 1).run Tryz.prog W = .ok (.agg (figV po)) W := fun W => by kernel_rfl
            have rP8 : Hid ((((w5.setCell ⟨(w1.heap.size + 1), 5, none⟩ (.bool b)).setCell ⟨(w1.heap.size + 1), 6, none⟩ (.int .i64 po.n)).setCell ⟨(w1.heap.size + 1), 6 + 1, none⟩ (.int .i64 po.pos)).heap[(w1.heap.size + 1)]? = some (.cells (rawV ⟨(t.pos : Int), false, pr, C, b, po⟩ (.slice o n m)) 92 (0, 0))) := tc_row (tc_row rP6 _) _
            have r08 : Hid ((((w5.setCell ⟨(w1.heap.size + 1), 5, none⟩ (.bool b)).setCell ⟨(w1.heap.size + 1), 6, none⟩ (.int .i64 po.n)).setCell ⟨(w1.heap.size + 1), 6 + 1, none⟩ (.int .i64 po.pos)).heap[w.heap.size]? = some (.cells (rawV ⟨0, false, ⟨0, 0⟩, [], false, ⟨0, 0⟩⟩ (.slice none 0 0)) 92 (0, 0))) := (tc_far (by omega) _).trans ((tc_far (by omega) _).trans ((tc_far (by omega) _).trans r05))
            have O8 : Hid (ClasOwn w.heap.size (((w5.setCell ⟨(w1.heap.size + 1), 5, none⟩ (.bool b)).setCell ⟨(w1.heap.size + 1), 6, none⟩ (.int .i64 po.n)).setCell ⟨(w1.heap.size + 1), 6 + 1, none⟩ (.int .i64 po.pos)) C (.slice o n m)) := clas_set (clas_set (clas_set O5 rP5 _) rP6 _) (tc_row rP6 _) _
            have G8 : Hid (w.grownBy (((w5.setCell ⟨(w1.heap.size + 1), 5, none⟩ (.bool b)).setCell ⟨(w1.heap.size + 1), 6, none⟩ (.int .i64 po.n)).setCell ⟨(w1.heap.size + 1), 6 + 1, none⟩ (.int .i64 po.pos)) (some g)) := gb_setCell (gb_setCell (gb_setCell G5 (.inr (by omega)) _ _) (.inr (by omega)) _ _) (.inr (by omega)) _ _
            have R8 : Hid (Rd W0 (((w5.setCell ⟨(w1.heap.size + 1), 5, none⟩ (.bool b)).setCell ⟨(w1.heap.size + 1), 6, none⟩ (.int .i64 po.n)).setCell ⟨(w1.heap.size + 1), 6 + 1, none⟩ (.int .i64 po.pos)) g E T4) := rd_setCell (rd_setCell (rd_setCell R5 (by omega) (by omega) _ _) (by omega) (by omega) _ _) (by omega) (by omega) _ _
            clear rP5 r05 rP6 G5 O5 R5 hg5 K4
            go_wp2_with (first
              | (refine wl_loadE (E := RawE) RawOk rfl _ rfl (w1.heap.size + 1) 0 rfl _ _ _ (rawV ⟨(t.pos : Int), false, pr, C, b, po⟩ (.slice o n m)) rfl rP8.out (own_cells _ _) ?_)
              | (refine wl_storeE (E := RawE) RawOk rfl _ _ rfl w.heap.size (rawV ⟨(t.pos : Int), false, pr, C, b, po⟩ (.slice o n m)) (raw_fits _ _ ⟨_, _, _, rfl⟩) rfl rfl _ r08.out rfl _ rfl ?_))
            refine retE (E := RawE) RawOk rfl rfl w.heap.size rfl (rawV ⟨(t.pos : Int), false, pr, C, b, po⟩ (.slice o n m)) rfl (setRow_heap _ _ _ _ _ _ r08.out) ?_
            rw [HA2.out]
            exact ⟨gb_setRow G8.out (.inr (Nat.le_refl _)) _, ⟨_, rfl, _, rfl, clas_setRow O8.out r08.out _⟩, rd_setRow R8.out (by omega) (by omega) _⟩
end Go.Proofs.YtnbklmmampdbfaaGreatDoor
namespace Go.Proofs.YtnbklmmampdbfaaGreatDoor
open Go Go.RowKit
set_option maxRecDepth 20000

/-- Lines in memory that are one's own. -/
def RawsOwn (B : Nat) (w : World) (L : List Raw) (v : Value) : Prop := NOwn RawE rawV (fun w x u => ClasOwn B w x.clauses u) w B v L
theorem RawsOwn.by {w w' : World} {g B : Nat} (hgr : w.grownBy w' (some g)) (hB : g < B) {L : List Raw} {v : Value} (h : RawsOwn B w L v) : RawsOwn B w' L v := by
  obtain ⟨P, h1, h2, h3⟩ := h
  exact ⟨P, h1, own_by hgr hB h2, fun p hp => (h3 p hp).by hgr hB⟩
theorem RawsOwn.below {w w' : World} {B : Nat} (hb : Below w.heap.size w w') {L : List Raw} {v : Value} (h : RawsOwn B w L v) : RawsOwn B w' L v := by
  obtain ⟨P, h1, h2, h3⟩ := h
  exact ⟨P, h1, gown_below h2 hb, fun p hp => (h3 p hp).below hb⟩
theorem clas_grown {w w' : World} {B B' : Nat} {n : Nat} {v : Value} {xs : List Value} (hown : w.ownsRow B' 92 8 v n xs) (hgr : w.grownBy w' v.ownBlock) {C : List Cla} {u : Value} (h : ClasOwn B w C u) : ClasOwn B w' C u := by
  obtain ⟨P, h1, h2, h3⟩ := h
  exact ⟨P, h1, own_grown hgr h2 (own_apart hown h2 (by decide)), fun p hp => own_grown hgr (h3 p hp) (own_apart hown (h3 p hp) (by decide))⟩
theorem takeL_fuel (E : Nat) : ∀ (f f' : Nat) (had : List Raw) (T : List Tok), T.length < f → T.length < f' → takeL E f had T = takeL E f' had T
  | 0, _, _, _, h, _ => absurd h (by omega)
  | _ + 1, 0, _, _, _, h => absurd h (by omega)
  | f + 1, f' + 1, had, [], _, _ => rfl
  | f + 1, f' + 1, had, t :: T, h, h' => by
    simp only [List.length_cons] at h h'
    rw [takeL, takeL]
    split
    · exact takeL_fuel E f f' had T (by omega) (by omega)
    · split
      · rfl
      · cases hR : takeR E (t :: T) with
        | error x => rfl
        | ok x =>
          obtain ⟨A, t6, B, hT, _, _, _, _⟩ := eats_R (x := x.1) (T' := x.2) hR
          have := congrArg List.length hT
          simp only [List.length_cons, List.length_append] at this
          exact takeL_fuel E f f' _ x.2 (by omega) (by omega)
theorem line_len {E : Nat} {T T' : List Tok} {x : Raw} (h : lineT E T = .ok (x, T')) : T'.length < T.length ∧ ∃ A, T = A ++ T' := by
  unfold lineT at h
  obtain ⟨a, h1, h2⟩ := bind_ok h
  obtain ⟨b, h3, h4⟩ := bind_ok h2
  obtain ⟨c, h5, h6⟩ := map_ok h4
  cases h6
  have e6 := (takeK_in (t := b.1) (T' := b.2) h3).1
  have eA : ∃ A, b.2 = A ++ c.2 := by
    rw [takeA_eq] at h5
    obtain ⟨d, h7, h8⟩ := bind_ok h5
    have e7 := (takeK_in (t := d.1) (T' := d.2) h7).1
    split at h8
    · cases h8; exact ⟨[d.1], e7⟩
    · split at h8
      · obtain ⟨e, h9, h10⟩ := map_ok h8
        cases h10
        obtain ⟨A, hA, _⟩ := eats_F (f := e.1) (T' := e.2) h9
        exact ⟨d.1 :: A, by rw [e7, hA]; rfl⟩
      · cases h8
  have eH : ∃ A, T = A ++ a.2 := by
    cases T with
    | nil => cases h1
    | cons t T =>
      have h1' : (if t.kind = 1 ∧ t.text = wDefault then (.ok ((true, ⟨0, 0⟩, []), T) : Res ((Bool × Fig × List Cla) × List Tok)) else (takeF E (t :: T)).bind fun x => (takeCs E x.2.length [] x.2).map fun y => ((false, x.1, y.1), y.2)) = .ok a := h1
      by_cases hc : t.kind = 1 ∧ t.text = wDefault
      · rw [if_pos hc] at h1'
        cases h1'
        exact ⟨[t], rfl⟩
      · rw [if_neg hc] at h1'
        obtain ⟨d, h7, h8⟩ := bind_ok h1'
        obtain ⟨e, h9, h10⟩ := map_ok h8
        cases h10
        obtain ⟨A, hA, _⟩ := eats_F (f := d.1) (T' := d.2) h7
        obtain ⟨B, hB, _⟩ := eats_Cs (l := e.1) (T' := e.2) h9
        exact ⟨A ++ B, by rw [hA, hB]; simp⟩
  obtain ⟨A, hA⟩ := eA
  obtain ⟨B, hB⟩ := eH
  rw [hB, e6, hA]
  refine ⟨by simp; omega, ⟨B ++ b.1 :: A, by simp⟩⟩
/-- What is asked of the tokens: a word's text stands in a Word alone. -/
def WordT (T : List Tok) : Prop := ∀ t ∈ T, t.text = wDefault → t.kind = 1
theorem rd_cell {W0 w : World} {g E : Nat} {T : List Tok} (h : Rd W0 w g E T) : ∃ o cap, w.cell? ⟨g, 0, none⟩ = some (.slice o T.length cap) := by
  obtain ⟨_, _, v, h2, h3⟩ := h
  obtain ⟨o, cap, rfl, _, _⟩ := h3.slice
  exact ⟨o, cap, by rw [cell_of_row _ _ _ _ _ _ h2]; rfl⟩

set_option maxHeartbeats 8000000 in
theorem lines_any (W0 w : World) (g E : Nat) (T : List Tok) (hTl : T.length ≤ 5000) (hW : WordT T) (h : Rd W0 w g E T) :
    Calls Tryz.prog 44 #[.pointer (some ⟨g, 0, none⟩)] w fun e w' => Took W0 w g E (RawsOwn w.heap.size) ((takeL E (T.length + 1) [] T).map fun l => (l, ([] : List Tok))) e w' := by
  have CP : Hid (∀ W T, Rd W0 W g E T → Calls Tryz.prog 70 #[.pointer (some ⟨g, 0, none⟩)] W fun e w' => e = .returned (.agg (encT (hd E T))) ∧ Below W.heap.size W w') := fun W T h => peek_any W0 W g E T h
  have CK : Hid (∀ W T, Rd W0 W g E T → Calls Tryz.prog 71 #[.pointer (some ⟨g, 0, none⟩), .int .i64 7] W fun e w' => Took W0 W g E (fun _ t v => v = .agg (encT t)) (takeK E 7 T) e w') := fun W T h => take_any W0 W g E 7 (by decide) T h
  have CL : Hid (∀ W t T, (t :: T).length ≤ 5000 → (t.text = wDefault → t.kind = 1) → Rd W0 W g E (t :: T) → Calls Tryz.prog 72 #[.pointer (some ⟨g, 0, none⟩)] W fun e w' => Took W0 W g E (RawR W.heap.size) (lineT E (t :: T)) e w') := fun W t T hl hw h => line_any W0 W g E t T hl hw h
  have hgl := h.size
  have H : Hid (Rd W0 w g E T) := h
  obtain ⟨A, hA⟩ : ∃ A, A = takeL E (T.length + 1) [] T := ⟨_, rfl⟩
  rw [← hA]
  have HA0 : Hid (A = takeL E (T.length + 1) [] T) := hA
  have HW0 : Hid (WordT T) := hW
  clear h hA hW
  go_enter Tryz.func44, Tryz.ntmps44
  go_wp2_with fail
  go_loopw [3] (fun out wr => ∃ (f : Nat) (had : List Raw) (T1 : List Tok), T1.length < f ∧ had.length ≤ 64 ∧ T1.length ≤ 5000 ∧ Hid (WordT T1) ∧ Hid (A = takeL E f had T1) ∧ w.grownBy wr (some g) ∧ Rd W0 wr g E T1 ∧ RawsOwn w.heap.size wr had out) (fun _ wr => restN wr g)
  case atStart => exact ⟨T.length + 1, [], T, by omega, by simp, hTl, HW0, HA0, gb_refl _ _, H.out, NOwn.nil _ _ _ _ _⟩
  case round =>
    obtain ⟨f, had, T1, hf, h64, hl, HW, HA, hg, R1, hown⟩ := hrel
    obtain ⟨o3, cap3, rfl⟩ : ∃ o cap, u3 = .slice o had.length cap := by
      obtain ⟨P, hP, hP2, _⟩ := hown
      obtain ⟨o, cap, e⟩ := gown_slice hP2
      exact ⟨o, cap, by rw [e, ← hP, List.length_map]⟩
    have OWN : Hid (RawsOwn w.heap.size wr had (.slice o3 had.length cap3)) := hown
    have HG : Hid (w.grownBy wr (some g)) := hg
    have HR : Hid (Rd W0 wr g E T1) := R1
    obtain ⟨o, cap, c0⟩ := rd_cell R1
    have HRest : Hid (restN wr g = T1.length) := rest_is R1
    clear hown hg R1 HA0 HW0
    cases T1 with
    | nil =>
      have HA2 : Hid (A = .ok had) := by
        show _ = _
        rw [HA.out]
        cases f with
        | zero => rfl
        | succ f => rfl
      simp only [List.length_nil] at c0
      clear HA
      go_wp2_with fail
      go_ret
      rw [HA2.out]
      exact ⟨HG.out, ⟨_, rfl, OWN.out⟩, HR.out⟩
    | cons t T2 =>
      obtain ⟨f', rfl⟩ : ∃ f', f = f' + 1 := ⟨f - 1, by omega⟩
      simp only [List.length_cons] at c0 hf hl
      have hpos : (0 : Int) < (T2.length : Int) + 1 := by omega
      have HRest2 : Hid (restN wr g = T2.length + 1) := HRest.out
      clear HRest
      go_wp2_with fail
      refine (CP.out _ (t :: T2) HR.out).mono ?_
      rintro e w1 ⟨rfl, hb1⟩
      have hhd : hd E (t :: T2) = t := rfl
      rw [hhd]
      clear hhd c0
      have HR1 : Hid (Rd W0 (w1.alloc (.cells (encT t) 117)) g E (t :: T2)) := (HR.out.below hb1).alloc _
      have HG1 : Hid (w.grownBy (w1.alloc (.cells (encT t) 117)) (some g)) := gb_alloc (grown_trans HG.out (grown_below hb1)) _
      have OWN1 : Hid (RawsOwn w.heap.size (w1.alloc (.cells (encT t) 117)) had (.slice o3 had.length cap3)) := (OWN.out.below hb1).below ((Below.refl _ _).alloc (Nat.le_refl _) _)
      obtain ⟨t0, t1, _, _⟩ := tok_cells (heap_new w1 (.cells (encT t) 117) _ rfl)
      clear hb1
      by_cases hk7 : t.kind = 7
      · have hk' : ((t.kind : Int) == 7) = true := by simp; omega
        have HA2 : Hid (A = takeL E f' had T2) := by show _ = _; rw [HA.out, takeL, if_pos hk7]
        have HK : Hid (takeK E 7 (t :: T2) = .ok (t, T2)) := if_pos hk7
        have HW2 : Hid (WordT T2) := fun u hu => HW.out u (by simp [hu])
        clear hk7 HA
        go_wp2_with (first
          | (refine wl_storeE (E := TokE) TokOk rfl _ _ rfl w1.heap.size (encT t) (tv_fits _ _ _ _) rfl rfl _ (heap_new _ _ _ rfl) rfl _ (setRow_new _ _ _ _ _ rfl) ?_))
        refine (CK.out _ (t :: T2) HR1.out).mono ?_
        rw [HK.out]
        rintro e w2 ⟨hg2, ⟨v, rfl, rfl⟩, R2⟩
        have HR2 : Hid (Rd W0 w2 g E T2) := R2
        have HG2 : Hid (w.grownBy w2 (some g)) := grown_trans HG1.out hg2
        have OWN2 : Hid (RawsOwn w.heap.size w2 had (.slice o3 had.length cap3)) := OWN1.out.by hg2 hgl.2
        clear hg2 R2 t0 t1
        go_wp2_with fail
        go_roundw
        case rel => exact ⟨f', had, T2, by omega, h64, by omega, HW2, HA2, HG2.out, HR2.out, OWN2.out⟩
        case measure => rw [HRest2.out, rest_is HR2.out]; omega
      · have hk' : ((t.kind : Int) == 7) = false := by simp; omega
        by_cases hm : had.length = 64
        · have HA2 : Hid (A = .error (4, t.pos)) := by show _ = _; rw [HA.out, takeL, if_neg hk7, if_pos hm]
          have hm' : ((had.length : Int) == 64) = true := by simp; omega
          clear hk7 hm HA
          go_wp2_with (first
            | (refine wl_storeE (E := TokE) TokOk rfl _ _ rfl w1.heap.size (encT t) (tv_fits _ _ _ _) rfl rfl _ (heap_new _ _ _ rfl) rfl _ (setRow_new _ _ _ _ _ rfl) ?_))
          rw [HA2.out]
          exact ⟨rfl, HG1.out, rfl⟩
        · have HA2 : Hid (A = (takeR E (t :: T2)).bind fun x => takeL E f' (had ++ [x.1]) x.2) := by show _ = _; rw [HA.out, takeL, if_neg hk7, if_neg hm]
          have hm' : ((had.length : Int) == 64) = false := by simp; omega
          have hm2 : had.length + 1 ≤ 64 := by omega
          have HWt : Hid (t.text = wDefault → t.kind = 1) := HW.out t (by simp)
          clear hk7 hm HA
          go_wp2_with (first
            | (refine wl_storeE (E := TokE) TokOk rfl _ _ rfl w1.heap.size (encT t) (tv_fits _ _ _ _) rfl rfl _ (heap_new _ _ _ rfl) rfl _ (setRow_new _ _ _ _ _ rfl) ?_))
          refine (CL.out _ t T2 (by simp; omega) HWt.out HR1.out).mono ?_
          cases hL : lineT E (t :: T2) with
          | error x =>
            obtain ⟨c, q⟩ := x
            have HA3 : Hid (A = .error (c, q)) := by show _ = _; rw [HA2.out, takeR_line, hL]; rfl
            clear hL HA2
            rintro e w2 ⟨hg2, rfl⟩
            go_wp2_with fail
            rw [HA3.out]
            exact ⟨rfl, grown_trans HG1.out hg2, rfl⟩
          | ok x =>
            obtain ⟨x, T3⟩ := x
            obtain ⟨hlen, A3, hT3⟩ := line_len hL
            simp only [List.length_cons] at hlen
            have HA3 : Hid (A = ((takeE T3).map fun u => (x, u)).bind fun x => takeL E f' (had ++ [x.1]) x.2) := by show _ = _; rw [HA2.out, takeR_line, hL]; rfl
            have HW3 : Hid (WordT T3) := fun u hu => HW.out u (by rw [hT3]; simp [hu])
            clear hL HA2 hT3
            rintro e w2 ⟨hg2, ⟨v, rfl, u, rfl, hcl2⟩, R2⟩
            have z1 := HG1.out.size
            have HR2 : Hid (Rd W0 w2 g E T3) := R2
            have HG2 : Hid (w.grownBy w2 (some g)) := grown_trans HG1.out hg2
            have OWN2 : Hid (RawsOwn w.heap.size w2 had (.slice o3 had.length cap3)) := OWN1.out.by hg2 hgl.2
            have HC2 : Hid (ClasOwn w.heap.size w2 x.clauses u) := clas_base hcl2 z1
            obtain ⟨o5, n5, m5, rfl⟩ := clas_slice hcl2
            clear hg2 R2 t0 t1 hcl2
            go_wp2_with (first
              | (refine wl_buildE (E := RawE) RawOk rfl _ rfl (rawV x (.slice o5 n5 m5)) rfl rfl ?_)
              | (at_builtin; refine of_stopT ?_))
            unfold StopT
            obtain ⟨P, hP1, hP2, hP3⟩ := OWN2.out
            have HO6 : Hid ((w2.alloc (.cells (rawV x (.slice o5 n5 m5)) 92)).ownsRow w.heap.size 92 8 (.slice o3 had.length cap3) P.length (gcells (fun p : Raw × Value => rawV p.1 p.2) P)) := hP2.alloc _
            have hPl : P.length = had.length := by rw [← hP1, List.length_map]
            have z5 := HG2.out.size
            refine wl_appendE (E := RawE) RawOk (fun p : Raw × Value => rawV p.1 p.2) rfl _ _ rfl w.heap.size _ P (x, .slice o5 n5 m5) (raw_fits _ _ ⟨_, _, _, rfl⟩) rfl HO6.out _ 1 rfl (heap_new _ _ _ rfl) (by omega) (by simp; omega) ?_
            intro v' w6 hown6 hgr6 _
            have alc : Below w2.heap.size w2 (w2.alloc (.cells (rawV x (.slice o5 n5 m5)) 92)) := (Below.refl _ _).alloc (Nat.le_refl _) _
            have HOWN6 : Hid (RawsOwn w.heap.size w6 (had ++ [x]) v') := NOwn.snoc (E := RawE) (row := rawV) (R := fun w' x u => ClasOwn w.heap.size w' x.clauses u) hP1 hown6 (fun p hp => clas_grown HO6.out hgr6 ((hP3 p hp).below alc)) (clas_grown HO6.out hgr6 (HC2.out.below alc))
            have HG6 : Hid (w.grownBy w6 (some g)) := gb_own (gb_alloc HG2.out _) hgr6 fun k hk => (HO6.out.lt k hk).1
            have R6 : Rd W0 w6 g E T3 := rd_own (HR2.out.alloc _) hgr6 fun k hk => Nat.lt_of_lt_of_le hgl.2 (HO6.out.lt k hk).1
            have HR6 : Hid (Rd W0 w6 g E T3) := R6
            obtain ⟨o7, cap7, c7⟩ := rd_cell R6
            obtain ⟨o6, cap6, rfl⟩ := gown_slice hown6
            clear hown6 hgr6 hP1 hP2 hP3 hPl HO6 alc R6
            simp only [Act.put, List.setIfInBounds_toArray, List.set_cons_succ, List.set_cons_zero]
            cases T3 with
            | nil =>
              have HA4 : Hid (A = takeL E f' (had ++ [x]) []) := HA3.out
              simp only [List.length_nil] at c7
              clear HA3
              go_wp2_with fail
              go_roundw
              case rel => exact ⟨f', had ++ [x], [], by simp; omega, by simp; omega, by simp, HW3, HA4, HG6.out, HR6.out, HOWN6.out⟩
              case measure => rw [HRest2.out, rest_is HR6.out]; simp
            | cons t7 T4 =>
              simp only [List.length_cons] at c7 hlen
              have hpos7 : (0 : Int) < (T4.length : Int) + 1 := by omega
              go_wp2_with fail
              refine (CK.out _ (t7 :: T4) HR6.out).mono ?_
              by_cases hk8 : t7.kind = 7
              · obtain ⟨f2, rfl⟩ : ∃ f2, f' = f2 + 1 := ⟨f' - 1, by omega⟩
                have HK : Hid (takeK E 7 (t7 :: T4) = .ok (t7, T4)) := if_pos hk8
                have HA4 : Hid (A = takeL E f2 (had ++ [x]) T4) := by
                  show _ = _
                  have hE : takeE (t7 :: T4) = .ok (t7 :: T4) := if_pos hk8
                  rw [HA3.out, hE]
                  show takeL E (f2 + 1) (had ++ [x]) (t7 :: T4) = _
                  rw [takeL, if_pos hk8]
                have HW4 : Hid (WordT T4) := fun u hu => HW3.out u (by simp [hu])
                rw [HK.out]
                clear hk8 HA3
                rintro e w8 ⟨hg8, ⟨v, rfl, rfl⟩, R8⟩
                have HR8 : Hid (Rd W0 w8 g E T4) := R8
                have HG8 : Hid (w.grownBy w8 (some g)) := grown_trans HG6.out hg8
                have OWN8 := HOWN6.out.by hg8 hgl.2
                have HOWN8 : Hid (RawsOwn w.heap.size w8 (had ++ [x]) (.slice o6 (P ++ [(x, Value.slice o5 n5 m5)]).length cap6)) := OWN8
                clear hg8 R8 OWN8 c7
                go_wp2_with fail
                go_roundw
                case rel => exact ⟨f2, had ++ [x], T4, by omega, by simp; omega, by omega, HW4, HA4, HG8.out, HR8.out, by have := HOWN8.out; simpa using this⟩
                case measure => rw [HRest2.out, rest_is HR8.out]; omega
              · have HK : Hid (takeK E 7 (t7 :: T4) = .error (8, t7.pos)) := if_neg hk8
                have HA4 : Hid (A = .error (8, t7.pos)) := by
                  show _ = _
                  have hE : takeE (t7 :: T4) = .error (8, t7.pos) := if_neg hk8
                  rw [HA3.out, hE]
                  rfl
                rw [HK.out]
                clear hk8 HA3
                rintro e w8 ⟨hg8, rfl⟩
                go_wp2_with fail
                rw [HA4.out]
                exact ⟨rfl, grown_trans HG6.out hg8, rfl⟩
end Go.Proofs.YtnbklmmampdbfaaGreatDoor
/-
  The library's contract of stringslite.Clone, laid at this seat's program, and strings.Clone above it.
-/
namespace Go.Proofs
open Go.Shelf
set_option maxRecDepth 20000
def Tryz.lays316_ren : Go.Shelf.Ren := ⟨fun | 316 => 112 | n => n, fun | 37 => 173 | 127 => 174 | n => n, fun | n => n⟩
theorem Tryz.lays316 : Go.Proofs.LaysM.n316 Tryz.prog Tryz.lays316_ren := {
  mixed := by kernel_rfl
  f316 := Tryz.func112.trans (congrArg some (by kernel_rfl))
  t0 := Tryz.underlying0
  a0 := Tryz.isAgg0
  z0 := Tryz.sizeOf0
  v0 := Tryz.zeroValue0
  t3 := Tryz.underlying3
  a3 := Tryz.isAgg3
  z3 := Tryz.sizeOf3
  v3 := Tryz.zeroValue3
  t4 := Tryz.underlying4
  a4 := Tryz.isAgg4
  z4 := Tryz.sizeOf4
  v4 := Tryz.zeroValue4
  t5 := Tryz.underlying5
  a5 := Tryz.isAgg5
  z5 := Tryz.sizeOf5
  v5 := Tryz.zeroValue5
  t9 := Tryz.underlying9
  a9 := Tryz.isAgg9
  z9 := Tryz.sizeOf9
  v9 := Tryz.zeroValue9
  t37 := Tryz.underlying173
  a37 := Tryz.isAgg173
  z37 := Tryz.sizeOf173
  v37 := Tryz.zeroValue173
  t127 := Tryz.underlying174
  a127 := Tryz.isAgg174
  z127 := Tryz.sizeOf174
  v127 := Tryz.zeroValue174
  i0 := by kernel_rfl
  i3 := by kernel_rfl
  i4 := by kernel_rfl
  i5 := by kernel_rfl
  i9 := by kernel_rfl
  i37 := by kernel_rfl
  i127 := by kernel_rfl }
namespace YtnbklmmampdbfaaGreatDoor
open Go Go.RowKit

theorem clone_in (s : ByteArray) (w : World) (hlim : s.size ≤ 281474976710656) :
    Calls Tryz.prog 112 #[.string s] w fun e w' => e = .returned (.string s) ∧ Below w.heap.size w w' := Any.stringslite_Clone Tryz.lays316 s w hlim

theorem clone_any (s : ByteArray) (w : World) (hlim : s.size ≤ 281474976710656) :
    Calls Tryz.prog 93 #[.string s] w fun e w' => e = .returned (.string s) ∧ Below w.heap.size w w' := by
  have C : Hid (∀ W, Calls Tryz.prog 112 #[.string s] W fun e w' => e = .returned (.string s) ∧ Below W.heap.size W w') := fun W => clone_in s W hlim
  clear hlim
  go_enter Tryz.func93, Tryz.ntmps93
  go_wp2_with fail
  refine (C.out _).mono ?_
  rintro e w1 ⟨rfl, hb1⟩
  go_wp2_with fail
  go_ret
  exact ⟨rfl, hb1⟩
end YtnbklmmampdbfaaGreatDoor
end Go.Proofs
