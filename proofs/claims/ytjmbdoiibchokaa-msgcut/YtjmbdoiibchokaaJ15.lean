import Derived.Test.YtjmbdoiibchokaaJ13
namespace Go.Proofs.Ytjmbdoiibchokaa
open Go Go.Lib Go.RowKit
set_option maxRecDepth 20000

set_option maxHeartbeats 8000000 in
theorem lawMUnlike_any (m n : MsgM) (hm : okM m) (hn : okM n) (w : World) : Calls Try.prog 6 #[.agg (msA m), .agg (msA n)] w fun e w' => e = .returned (.bool true) ∧ Below w.heap.size w w' := by
  have AW : Hid (∀ W, Calls Try.prog 8 #[] W fun e w' => e = .returned (.bool true) ∧ Below W.heap.size W w') := fun W => awake16_any W
  obtain ⟨L, hL⟩ : ∃ L, L = (encM m).1 := ⟨_, rfl⟩
  obtain ⟨ec, hec⟩ : ∃ ec, ec = (encM m).2 := ⟨_, rfl⟩
  obtain ⟨M, hM⟩ : ∃ M, M = (encM n).1 := ⟨_, rfl⟩
  obtain ⟨fc, hfc⟩ : ∃ fc, fc = (encM n).2 := ⟨_, rfl⟩
  have E1 : Hid (∀ W, Calls Try.prog 11 #[.agg (msA m)] W fun e w' => ∃ u, e = .returned (.tuple #[u, .int .i64 ec]) ∧ BOwn W.heap.size w' u L ∧ Below W.heap.size W w') := fun W => by rw [hL, hec]; exact menc_any m hm W
  have E2 : Hid (∀ W, Calls Try.prog 11 #[.agg (msA n)] W fun e w' => ∃ u, e = .returned (.tuple #[u, .int .i64 fc]) ∧ BOwn W.heap.size w' u M ∧ Below W.heap.size W w') := fun W => by rw [hM, hfc]; exact menc_any n hn W
  have cs : ∀ x : MsgM, (rightM x = true ∧ encM x = (bytesM x, 0)) ∨ encM x = ([], 12) := fun x => by
    by_cases h : rightM x = true
    · exact .inl ⟨h, by unfold encM; rw [if_pos h]⟩
    · exact .inr (by unfold encM; rw [if_neg h])
  obtain ⟨b, hb⟩ : ∃ b, b = eqB16 m n := ⟨_, rfl⟩
  have HCS : Hid (ec = 12 ∨ (ec = 0 ∧ fc = 12) ∨ (ec = 0 ∧ fc = 0 ∧ (L == M) = b)) := by
    rcases cs m with ⟨h1, h2⟩ | h2
    · rcases cs n with ⟨h3, h4⟩ | h4
      · rw [h2] at hL hec
        rw [h4] at hM hfc
        refine .inr (.inr ⟨hec, hfc, ?_⟩)
        rw [hb, Bool.eq_iff_iff, beq_iff_eq, eqB16_iff hm hn, hL, hM]
        exact ⟨fun e => bytes_inj hm hn h1 h3 e, fun e => by rw [e]⟩
      · rw [h2] at hec
        rw [h4] at hfc
        exact .inr (.inl ⟨hec, hfc⟩)
    · rw [h2] at hec
      exact .inl hec
  have eM : ∀ W, (Op.equalIn 10000 27 (.agg (msA m)) (.agg (msA n))).run Try.prog W = .ok b W := fun W => by rw [hb]; exact eqM16 hm hn W
  have eg : ∀ op x y (xs ys : Array Value) w, (eqGuard op 27 x y (.agg xs) (.agg ys)).run Try.prog w = .ok () w := egM
  clear hL hec hM hfc hb cs
  have hms := msA_size hm
  have hns := msA_size hn
  have g0 : ((w.alloc (.cells (msA m) 27)).alloc (.cells (msA n) 27)).heap[w.heap.size]? = some (.cells (msA m) 27 (0, 0)) := heap_past _ _ _ _ (heap_new _ _ _ rfl)
  have k0 : ((w.alloc (.cells (msA m) 27)).alloc (.cells (msA n) 27)).heap[w.heap.size + 1]? = some (.cells (msA n) 27 (0, 0)) := heap_new _ _ _ (by simp)
  have B0 : Below w.heap.size w ((w.alloc (.cells (msA m) 27)).alloc (.cells (msA n) 27)) := ((Below.refl _ _).alloc (Nat.le_refl _) _).alloc (by simp) _
  go_enter Try.func6, Try.ntmps6
  go_wp2_with fail
  refine (AW.out _).mono ?_
  rintro e w1 ⟨rfl, hb1⟩
  have g1 : w1.heap[w.heap.size]? = some (.cells (msA m) 27 (0, 0)) := (hb1.block _ (Array.getElem?_eq_some_iff.1 g0).1).trans g0
  have k1 : w1.heap[w.heap.size + 1]? = some (.cells (msA n) 27 (0, 0)) := (hb1.block _ (Array.getElem?_eq_some_iff.1 k0).1).trans k0
  have B1 : Below w.heap.size w w1 := B0.trans (hb1.mono B0.size)
  clear hb1 g0 k0 B0
  go_wp2_with (first
    | ((with_reducible refine wl_gl16 27 _ rfl ?_); refine wl_loadA MsOk rfl _ rfl w.heap.size 0 rfl _ _ _ (msA m) hms g1 (own_cells _ _) ?_))
  refine (E1.out _).mono ?_
  rintro e w2 ⟨u, rfl, hO2, hb2⟩
  have g2 : w2.heap[w.heap.size]? = some (.cells (msA m) 27 (0, 0)) := (hb2.block _ (Array.getElem?_eq_some_iff.1 g1).1).trans g1
  have k2 : w2.heap[w.heap.size + 1]? = some (.cells (msA n) 27 (0, 0)) := (hb2.block _ (Array.getElem?_eq_some_iff.1 k1).1).trans k1
  have B2 : Below w.heap.size w w2 := B1.trans (hb2.mono B1.size)
  have HU2 : Hid (BSl w2 u L) := hO2.sl
  obtain ⟨ou, nu, cu, rfl⟩ := val_slice hO2.sl
  clear hO2 hb2 g1 k1 B1
  go_wp2_with (first
    | ((with_reducible refine wl_gl16 27 _ rfl ?_); refine wl_loadA MsOk rfl _ rfl (w.heap.size + 1) 0 rfl _ _ _ (msA n) hns k2 (own_cells _ _) ?_))
  refine (E2.out _).mono ?_
  rintro e w3 ⟨x, rfl, hO3, hb3⟩
  have g3 : w3.heap[w.heap.size]? = some (.cells (msA m) 27 (0, 0)) := (hb3.block _ (Array.getElem?_eq_some_iff.1 g2).1).trans g2
  have k3 : w3.heap[w.heap.size + 1]? = some (.cells (msA n) 27 (0, 0)) := (hb3.block _ (Array.getElem?_eq_some_iff.1 k2).1).trans k2
  have B3 : Below w.heap.size w w3 := B2.trans (hb3.mono B2.size)
  have HU3 : Hid (BSl w3 (.slice ou nu cu) L) := HU2.out.below hb3
  have HX3 : Hid (BSl w3 x M) := hO3.sl
  obtain ⟨ox, nx, cx, rfl⟩ := val_slice hO3.sl
  clear hO3 hb3 g2 k2 B2
  have CS : Hid (∀ u : Later w3, Calls Try.prog 13 #[.slice ou nu cu, .slice ox nx cx] u.world fun e w' => e = .returned (.bool (L == M)) ∧ w' = u.world) := fun u => rsameB_any _ _ L M u.world (HU3.out.below u.below) (HX3.out.below u.below)
  have ne1 := Later.ne w3
  go_wp2_with fail
  rcases HCS.out with he | ⟨he, hf⟩ | ⟨he, hf, hq⟩
  · subst he
    clear HCS
    refine wp_region_later (by kernel_rfl) (by kernel_rfl) ?_
    repeat go_big_quiet_step (fail)
    refine wpQuiet_nil ?_
    rintro w4 ⟨u, hu⟩
    have B4 : Below w.heap.size w w4 := by rw [hu]; exact B3.trans (u.below.mono B3.size)
    clear hu u
    go_wp2_with fail
    go_ret
    exact ⟨rfl, B4⟩
  · subst he hf
    clear HCS
    refine wp_region_later (by kernel_rfl) (by kernel_rfl) ?_
    repeat go_big_quiet_step (fail)
    refine wpQuiet_nil ?_
    rintro w4 ⟨u, hu⟩
    have B4 : Below w.heap.size w w4 := by rw [hu]; exact B3.trans (u.below.mono B3.size)
    clear hu u
    go_wp2_with fail
    go_ret
    exact ⟨rfl, B4⟩
  · subst he hf
    rw [hq] at CS
    clear HCS hq
    refine wp_region_later (by kernel_rfl) (by kernel_rfl) ?_
    go_big_quiet_step (fail)
    go_big_quiet_step (fail)
    go_big_quiet_step (fail)
    go_big_quiet_step (fail)
    go_big_quiet_step (fail)
    go_big_quiet_step (fail)
    go_big_quiet_step (fail)
    go_big_quiet_step (fail)
    go_big_quiet_step (fail)
    go_big_quiet_want; go_big_quiet_op
    refine ⟨_, fun u => Calls.later_same16 (CS.out u), ?_⟩
    go_big_quiet_on
    refine qlA MsOk rfl _ rfl w.heap.size 0 rfl _ _ _ (msA m) hms (later_block g3) (own_cells _ _) ?_
    simp only [Act.put, List.setIfInBounds_toArray, List.set_cons_succ, List.set_cons_zero]
    refine qlA MsOk rfl _ rfl (w.heap.size + 1) 0 rfl _ _ _ (msA n) hns (later_block k3) (own_cells _ _) ?_
    simp only [Act.put, List.setIfInBounds_toArray, List.set_cons_succ, List.set_cons_zero]
    go_big_quiet_step (fail)
    go_big_quiet_step (fail)
    go_big_quiet_step (fail)
    go_big_quiet_step (fail)
    refine wpQuiet_nil ?_
    rintro w4 ⟨u, hu⟩
    have B4 : Below w.heap.size w w4 := by rw [hu]; exact B3.trans (u.below.mono B3.size)
    clear hu u
    go_wp2_with fail
    go_ret
    exact ⟨by simp, B4⟩
end Go.Proofs.Ytjmbdoiibchokaa
namespace Go.Proofs.Ytjmbdoiibchokaa
open Go Go.Lib Go.RowKit
set_option maxRecDepth 20000

set_option maxHeartbeats 8000000 in
theorem lawMCut_any (m : MsgM) (hm : okM m) (x : Nat) (hx : x < 256) (w : World) : Calls Try.prog 7 #[.agg (msA m), .int .u8 (x : Int)] w fun e w' => e = .returned (.bool true) ∧ Below w.heap.size w w' := by
  have AW : Hid (∀ W, Calls Try.prog 8 #[] W fun e w' => e = .returned (.bool true) ∧ Below W.heap.size W w') := fun W => awake16_any W
  obtain ⟨L, hL⟩ : ∃ L, L = (encM m).1 := ⟨_, rfl⟩
  obtain ⟨ec, hec⟩ : ∃ ec, ec = (encM m).2 := ⟨_, rfl⟩
  have E1 : Hid (∀ W, Calls Try.prog 11 #[.agg (msA m)] W fun e w' => ∃ u, e = .returned (.tuple #[u, .int .i64 ec]) ∧ BOwn W.heap.size w' u L ∧ Below W.heap.size W w') := fun W => by rw [hL, hec]; exact menc_any m hm W
  have HCS : Hid (ec = 12 ∨ (ec = 0 ∧ 1 ≤ L.length ∧ L.length ≤ 1000 ∧ decM (L.take (L.length - 1)) = (zeroM 0, 12) ∧ decM (L ++ [UInt8.ofNat x]) = (zeroM 0, 12))) := by
    by_cases hr : rightM m = true
    · have he : encM m = (bytesM m, 0) := by unfold encM; rw [if_pos hr]
      rw [he] at hL hec
      rw [hL]
      refine .inr ⟨hec, ?_, bytes_len hm, decM_none (dec_less hm), decM_none (dec_more hm _)⟩
      unfold bytesM sealB
      simp only [List.length_append, List.length_cons]
      omega
    · have he : encM m = ([], 12) := by unfold encM; rw [if_neg hr]
      rw [he] at hec
      exact .inl hec
  clear hL hec
  have hms := msA_size hm
  have g0 : (w.alloc (.cells (msA m) 27)).heap[w.heap.size]? = some (.cells (msA m) 27 (0, 0)) := heap_new _ _ _ rfl
  have B0 : Below w.heap.size w (w.alloc (.cells (msA m) 27)) := (Below.refl _ _).alloc (Nat.le_refl _) _
  obtain ⟨xb, hxb⟩ : ∃ xb : UInt8, xb = UInt8.ofNat x := ⟨_, rfl⟩
  have hxx : (x : Int) = (xb.toNat : Int) := by rw [hxb, UInt8.toNat_ofNat', Nat.mod_eq_of_lt hx]
  rw [← hxb] at HCS
  rw [hxx]
  clear hxb hxx hx
  go_enter Try.func7, Try.ntmps7
  go_wp2_with fail
  refine (AW.out _).mono ?_
  rintro e w1 ⟨rfl, hb1⟩
  have g1 : w1.heap[w.heap.size]? = some (.cells (msA m) 27 (0, 0)) := (hb1.block _ (Array.getElem?_eq_some_iff.1 g0).1).trans g0
  have B1 : Below w.heap.size w w1 := B0.trans (hb1.mono B0.size)
  clear hb1 g0 B0
  go_wp2_with (first
    | ((with_reducible refine wl_gl16 27 _ rfl ?_); refine wl_loadA MsOk rfl _ rfl w.heap.size 0 rfl _ _ _ (msA m) hms g1 (own_cells _ _) ?_))
  refine (E1.out _).mono ?_
  rintro e w2 ⟨u, rfl, hO2, hb2⟩
  have B2 : Below w.heap.size w w2 := B1.trans (hb2.mono B1.size)
  have HU2 : Hid (BSl w2 u L) := hO2.sl
  obtain ⟨ou, cu, hu, hc1, hc2⟩ := hO2.sl.slice
  subst hu
  clear hO2 hb2 g1 B1
  obtain ⟨nl, hnl⟩ : ∃ nl, nl = L.length := ⟨_, rfl⟩
  have HNL : Hid (nl = L.length) := hnl
  rw [← hnl] at HU2 hc1 ⊢
  clear hnl
  rcases HCS.out with he | ⟨he, hl1, hl2, hd1, hd2⟩
  · subst he
    go_wp2_with fail
    go_ret
    exact ⟨rfl, B2⟩
  · subst he
    rw [← HNL.out] at hl1 hl2 hd1
    have hcm := hc2
    unfold maxLen at hc2
    obtain ⟨g, off, _, rfl, _, _⟩ := HU2.out.at 0 (by omega)
    have HP : Hid (BSl w2 (.slice (some ⟨g, off, none⟩) (nl - 1) cu) (L.take (nl - 1))) := by
      have := HU2.out.part g off 0 (nl - 1) cu rfl (by omega) (by omega) hcm
      rw [Nat.add_zero, List.drop_zero] at this
      exact this
    have HD1 : Hid (∀ W (v : Value), BSl W v (L.take (nl - 1)) → Calls Try.prog 14 #[v] W fun e w' => e = .returned (.tuple #[.agg (msA (zeroM 0)), .int .i64 12]) ∧ Below W.heap.size W w') := fun W v hW => by
      have := mdec_any v _ W hW (by rw [List.length_take]; omega)
      unfold DecR at this
      rw [hd1] at this
      exact this
    have HD2 : Hid (∀ W (v : Value), BSl W v (L ++ [xb]) → Calls Try.prog 14 #[v] W fun e w' => e = .returned (.tuple #[.agg (msA (zeroM 0)), .int .i64 12]) ∧ Below W.heap.size W w') := fun W v hW => by
      have := mdec_any v _ W hW (by rw [List.length_append, ← HNL.out]; simp only [List.length_cons, List.length_nil]; omega)
      unfold DecR at this
      rw [hd2] at this
      exact this
    have CB : Hid (∀ W, BSl W (.slice (some ⟨g, off, none⟩) nl cu) L → Calls Try.prog 16 #[.slice (some ⟨g, off, none⟩) nl cu] W fun e w' => ∃ u, e = .returned u ∧ BOwn W.heap.size w' u L ∧ Below W.heap.size W w') := fun W hW => rbytes_any _ L W hW (by rw [← HNL.out]; omega)
    have hfz := ms_fits (zero_ok 0)
    clear hd1 hd2 HCS hcm
    go_wp2_with fail
    refine (HD1.out _ _ HP.out).mono ?_
    rintro e w3 ⟨rfl, hb3⟩
    have B3 : Below w.heap.size w w3 := B2.trans (hb3.mono B2.size)
    have HU3 : Hid (BSl w3 (.slice (some ⟨g, off, none⟩) nl cu) L) := HU2.out.below hb3
    clear hb3 HP
    have n0 := heap_new w3 (.cells zeroMs 27) _ rfl
    have Bx : Below w3.heap.size w3 ((w3.alloc (.cells zeroMs 27)).setRow w3.heap.size (msA (zeroM 0))) := below_setRow ((Below.refl _ _).alloc (Nat.le_refl _) _) (Nat.le_refl _) _
    have B4 : Below w.heap.size w ((w3.alloc (.cells zeroMs 27)).setRow w3.heap.size (msA (zeroM 0))) := B3.trans (Bx.mono B3.size)
    go_wp2_with (first
      | ((with_reducible refine wl_gs16 27 _ _ rfl ?_); refine wl_storeA MsOk rfl _ _ rfl w3.heap.size (msA (zeroM 0)) hfz rfl rfl _ n0 rfl _ rfl ?_))
    refine (CB.out _ (HU3.out.below Bx)).mono ?_
    rintro e w5 ⟨y, rfl, hO5, hb5⟩
    have B5 : Below w.heap.size w w5 := B4.trans (hb5.mono B4.size)
    obtain ⟨oy, ny, cy, rfl⟩ := val_slice hO5.sl
    have HO5 : Hid (BOwn w.heap.size w5 (.slice oy ny cy) L) := hO5.base B4.size
    clear hO5 hb5 Bx B4 n0
    go_wp2_with (first
      | (at_builtin; refine of_stopW ?_))
    unfold StopW
    have HS1 : Hid (BSl (w5.alloc (.cells #[.int .u8 (xb.toNat : Int)] 5)) (.slice (some ⟨w5.heap.size, 0, none⟩) 1 1) [xb]) := (own_one w5 xb).sl
    have HO6 : Hid (BOwn w.heap.size (w5.alloc (.cells #[.int .u8 (xb.toNat : Int)] 5)) (.slice oy ny cy) L) := HO5.out.below ((Below.refl _ _).alloc (Nat.le_refl _) _)
    have B6 : Below w.heap.size w (w5.alloc (.cells #[.int .u8 (xb.toNat : Int)] 5)) := B5.alloc B5.size _
    refine wl_appW rfl _ _ rfl w.heap.size (.slice oy ny cy) _ _ [xb] rfl HO6.out rfl HS1.out (by rw [← HNL.out]; simp only [List.length_cons, List.length_nil]; omega) B6.size ?_
    intro v' w7 ho hgr _
    have HO7 : Hid (BSl w7 v' (L ++ [xb])) := ho.sl
    have B7 : Below w.heap.size w w7 := B6.grown hgr B6.size fun q hq => (HO6.out.ge q hq).1
    obtain ⟨oz, nz, cz, rfl⟩ := val_slice ho.sl
    clear ho hgr
    simp only [Act.put, List.setIfInBounds_toArray, List.set_cons_succ, List.set_cons_zero]
    go_wp2_with fail
    refine (HD2.out _ _ HO7.out).mono ?_
    rintro e w8 ⟨rfl, hb8⟩
    have B8 : Below w.heap.size w w8 := B7.trans (hb8.mono B7.size)
    clear hb8
    have n0 := heap_new w8 (.cells zeroMs 27) _ rfl
    have B9 : Below w.heap.size w ((w8.alloc (.cells zeroMs 27)).setRow w8.heap.size (msA (zeroM 0))) := below_setRow (B8.alloc B8.size _) B8.size _
    go_wp2_with (first
      | ((with_reducible refine wl_gs16 27 _ _ rfl ?_); refine wl_storeA MsOk rfl _ _ rfl w8.heap.size (msA (zeroM 0)) hfz rfl rfl _ n0 rfl _ rfl ?_))
    go_ret
    exact ⟨rfl, B9⟩
end Go.Proofs.Ytjmbdoiibchokaa
