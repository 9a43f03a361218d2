import Derived.Test.YtjlghkiplapodaaJ6
import Derived.Maps.AppendAt
import Derived.OwnWalk
namespace Go.Proofs.Ytjlghkiplapodaa
open Go Go.RowKit

theorem own_setRow_ne {w : World} {B : Nat} {e : TypeId} {s : Nat} {v : Value} {n : Nat} {xs : List Value} (h : w.ownsRow B e s v n xs) (g : Nat) (hg : v.ownBlock ≠ some g) (cs : Array Value) : (w.setRow g cs).ownsRow B e s v n xs := by
  obtain ⟨h1, h2 | ⟨g', cap, cur, rfl, hB, hcur, h3⟩⟩ := h
  · exact ⟨h1, .inl h2⟩
  · exact ⟨h1, .inr ⟨g', cap, cur, rfl, hB, (setRow_other _ _ _ _ (fun e => hg (by rw [e]; rfl))).trans hcur, h3⟩⟩

set_option maxHeartbeats 2000000 in
theorem rminus_no (V M V' M' : List Int) (hV : Byt V) (hM : Byt M) (hV' : Byt V') (hM' : Byt M') (h : meets V M V' M' = false) (w : World) :
    Calls Try.prog 34 #[.agg (cv V M), .agg (cv V' M')] w fun e w' => ∃ v, e = .returned v ∧ w'.ownsRow w.heap.size 30 26 v (minusC V M V' M').length (ccells (minusC V M V' M')) ∧ Below w.heap.size w w' := by
  rw [minusC_no V M V' M' h, ccells_one]
  have hVl := hV.1
  have hMl := hM.1
  have hVl' := hV'.1
  have hMl' := hM'.1
  have hCl := (can_byt V M).1
  have hzl := Z_byt.1
  have C1 : Hid (∀ W, Calls Try.prog 33 #[.agg (cv V M)] W fun e w' => e = .returned (.agg (cv (can V M) M)) ∧ Below W.heap.size W w') := rcanon_any V M hV hM
  have C2 : Hid (∀ W, Calls Try.prog 28 #[.agg (cv V M), .agg (cv V' M')] W fun e w' => e = .returned (.tuple #[.agg (cv Z Z), .bool false]) ∧ Below W.heap.size W w') := by
    have := rmeet_any V M V' M' hV hM hV' hM'; rwa [meetR_no _ _ _ _ h] at this
  clear hV hM hV' hM' h
  go_enter Try.func34, Try.ntmps34
  have g0 := heap_past ((w.alloc (.cells (cv V M) 30)).alloc (.cells (cv V' M') 30)) (.cells #[] 30) _ _ (heap_past (w.alloc (.cells (cv V M) 30)) (.cells (cv V' M') 30) _ _ (heap_new w (.cells (cv V M) 30) _ rfl))
  have g1 := heap_past ((w.alloc (.cells (cv V M) 30)).alloc (.cells (cv V' M') 30)) (.cells #[] 30) _ _ (heap_new (w.alloc (.cells (cv V M) 30)) (.cells (cv V' M') 30) (w.heap.size + 1) (by simp))
  have g2 := heap_new ((w.alloc (.cells (cv V M) 30)).alloc (.cells (cv V' M') 30)) (.cells #[] 30) (w.heap.size + 2) (by simp)
  have hb : Below w.heap.size w (((w.alloc (.cells (cv V M) 30)).alloc (.cells (cv V' M') 30)).alloc (.cells #[] 30)) := (((Below.refl _ _).alloc (Nat.le_refl _) _).alloc (by simp) _).alloc (by simp; omega) _
  go_wp2_with (first
    | (refine wl_loadC rfl _ rfl w.heap.size rfl V M g0 hVl hMl ?_)
    | (refine wl_loadC rfl _ rfl (w.heap.size + 1) rfl V' M' g1 hVl' hMl' ?_))
  refine (C2.out _).mono ?_
  rintro e w1 ⟨rfl, hb1⟩
  have k0 : w1.heap[w.heap.size]? = some (.cells (cv V M) 30 (0, 0)) := by rw [hb1.block _ (by simp; omega)]; exact g0
  have k2 : w1.heap[w.heap.size + 2]? = some (.cells #[] 30 (0, 0)) := by rw [hb1.block _ (by simp)]; exact g2
  have hB1 := hb.trans (hb1.mono hb.size)
  have hz1 : w.heap.size + 3 ≤ w1.heap.size := Nat.le_trans (by simp) hb1.size
  clear g0 g1 g2 hb hb1 C2
  have l0 := heap_past w1 (.cells (cv Z Z) 30) _ _ k0
  have l2 := heap_past w1 (.cells (cv Z Z) 30) _ _ k2
  have hB2 := hB1.alloc (by omega) (.cells (cv Z Z) 30)
  go_wp2_with (first
    | (refine wl_storeC rfl _ _ rfl w1.heap.size Z Z rfl rfl _ (heap_new _ _ _ rfl) rfl hzl hzl _ (setRow_new _ _ _ _ _ rfl) ?_)
    | (refine wl_loadC rfl _ rfl w.heap.size rfl V M l0 hVl hMl ?_))
  refine (C1.out _).mono ?_
  rintro e w2 ⟨rfl, hb2⟩
  have m2 : w2.heap[w.heap.size + 2]? = some (.cells #[] 30 (0, 0)) := by rw [hb2.block _ (by simp; omega)]; exact l2
  have hB3 := hB2.trans (hb2.mono hB2.size)
  have hz2 : w.heap.size + 3 ≤ w2.heap.size := Nat.le_trans (by simp; omega) hb2.size
  clear k0 k2 hB1 l0 l2 hB2 hb2 C1
  obtain ⟨i0, hi, hz0', hz1', hz2'⟩ := infoC
  have hown : w2.ownsRow w.heap.size 30 26 (.slice (some ⟨w.heap.size + 2, 0, none⟩) 0 0) 0 [] := ⟨rfl, Or.inr ⟨w.heap.size + 2, 0, #[], rfl, by omega, m2, Nat.le_refl _, by decide, rfl, rfl⟩⟩
  have hcl : (cv (can V M) M).toList.length = 1 * 26 := by rw [Array.length_toList, cv_size _ _ hCl hMl]
  have hco : ∀ u ∈ (cv (can V M) M).toList, u.oneCell' = true := fun u hu => (Array.all_eq_true_iff_forall_mem.1 (cv_one (can V M) M)) u (by simpa using hu)
  go_wp2_with (first
    | (refine wl_build1 rfl _ rfl (can V M) M hCl hMl rfl ?_)
    | (at_builtin; refine of_stopped ?_))
  unfold Stopped
  refine wpList_append_own _ rfl _ _ 22 rfl w.heap.size 30 i0 (.agg zeroC) 26 26 Try.underlying22 hi hz0' hz1' hz2' rfl (by decide) _ _ _ rfl (hown.alloc _) ⟨w2.heap.size, 0, none⟩ 1 1 (cv (can V M) M).toList rfl hcl (cells_new w2 _ _) hco (by unfold maxLen; omega) (by omega) (by simp; omega) ?_
  intro v' w7 hown' hgrow7 hnil7
  have hB4 : Below w.heap.size w w7 := (hB3.alloc (by omega) _).grown hgrow7 (by simp; omega) (fun g hg => by have := (hown.lt g hg).1; omega)
  simp only [Act.put, List.setIfInBounds_toArray, List.set_cons_succ, List.set_cons_zero]
  clear hgrow7 hnil7 hown hcl hco hi hz0' hz1' hz2' m2
  have OWN : Hid (w7.ownsRow w.heap.size 30 26 v' 1 (cv (can V M) M).toList) := hown'
  clear hown'
  go_wp2_with fail
  go_ret
  exact ⟨_, rfl, OWN.out, hB4⟩

set_option maxHeartbeats 8000000 in
theorem rminus_yes (V M V' M' : List Int) (hV : Byt V) (hM : Byt M) (hV' : Byt V') (hM' : Byt M') (h : meets V M V' M' = true) (w : World) :
    Calls Try.prog 34 #[.agg (cv V M), .agg (cv V' M')] w fun e w' => ∃ v, e = .returned v ∧ w'.ownsRow w.heap.size 30 26 v (minusC V M V' M').length (ccells (minusC V M V' M')) ∧ Below w.heap.size w w' := by
  obtain ⟨R, hR⟩ : ∃ R, R = minusC V M V' M' := ⟨_, rfl⟩
  rw [← hR]
  have HR0 : Hid (rGo M V' M' 104 0 (can V M) M = R) := by
    show _ = _
    rw [hR, minus_rGo _ _ _ _ h]
  have hVl := hV.1
  have hMl := hM.1
  have hVl' := hV'.1
  have hMl' := hM'.1
  have hCl := (can_byt V M).1
  have hAl := (meetV_byt V M V' M').1
  have hBl := (meetM_byt M M').1
  have C1 : Hid (∀ W, Calls Try.prog 33 #[.agg (cv V M)] W fun e w' => e = .returned (.agg (cv (can V M) M)) ∧ Below W.heap.size W w') := rcanon_any V M hV hM
  have C2 : Hid (∀ W, Calls Try.prog 28 #[.agg (cv V M), .agg (cv V' M')] W fun e w' => e = .returned (.tuple #[.agg (cv (meetV V M V' M') (meetM M M')), .bool true]) ∧ Below W.heap.size W w') := by
    have := rmeet_any V M V' M' hV hM hV' hM'; rwa [meetR_yes _ _ _ _ h] at this
  have CA : Hid (∀ k : Nat, k < 104 → ∀ W, Calls Try.prog 43 #[.agg (cv V M), .int .i64 (k : Int)] W fun e w' => e = .returned (.int .i64 (atI V M k)) ∧ Below W.heap.size W w') := fun k hk => at_any V M hV hM k hk
  have CB : Hid (∀ k : Nat, k < 104 → ∀ W, Calls Try.prog 43 #[.agg (cv V' M'), .int .i64 (k : Int)] W fun e w' => e = .returned (.int .i64 (atI V' M' k)) ∧ Below W.heap.size W w') := fun k hk => at_any V' M' hV' hM' k hk
  have HM : Hid (Byt M) := hM
  clear hV hM hV' hM' h hR
  go_enter Try.func34, Try.ntmps34
  have g0 := heap_past ((w.alloc (.cells (cv V M) 30)).alloc (.cells (cv V' M') 30)) (.cells #[] 30) _ _ (heap_past (w.alloc (.cells (cv V M) 30)) (.cells (cv V' M') 30) _ _ (heap_new w (.cells (cv V M) 30) _ rfl))
  have g1 := heap_past ((w.alloc (.cells (cv V M) 30)).alloc (.cells (cv V' M') 30)) (.cells #[] 30) _ _ (heap_new (w.alloc (.cells (cv V M) 30)) (.cells (cv V' M') 30) (w.heap.size + 1) (by simp))
  have g2 := heap_new ((w.alloc (.cells (cv V M) 30)).alloc (.cells (cv V' M') 30)) (.cells #[] 30) (w.heap.size + 2) (by simp)
  have hb : Below w.heap.size w (((w.alloc (.cells (cv V M) 30)).alloc (.cells (cv V' M') 30)).alloc (.cells #[] 30)) := (((Below.refl _ _).alloc (Nat.le_refl _) _).alloc (by simp) _).alloc (by simp; omega) _
  go_wp2_with (first
    | (refine wl_loadC rfl _ rfl w.heap.size rfl V M g0 hVl hMl ?_)
    | (refine wl_loadC rfl _ rfl (w.heap.size + 1) rfl V' M' g1 hVl' hMl' ?_))
  refine (C2.out _).mono ?_
  rintro e w1 ⟨rfl, hb1⟩
  have k0 : w1.heap[w.heap.size]? = some (.cells (cv V M) 30 (0, 0)) := by rw [hb1.block _ (by simp; omega)]; exact g0
  have k1 : w1.heap[w.heap.size + 1]? = some (.cells (cv V' M') 30 (0, 0)) := by rw [hb1.block _ (by simp)]; exact g1
  have k2 : w1.heap[w.heap.size + 2]? = some (.cells #[] 30 (0, 0)) := by rw [hb1.block _ (by simp)]; exact g2
  have hB1 := hb.trans (hb1.mono hb.size)
  have hz1 : w.heap.size + 3 ≤ w1.heap.size := Nat.le_trans (by simp) hb1.size
  clear g0 g1 g2 hb hb1 C2
  have l0 := heap_past w1 (.cells (cv (meetV V M V' M') (meetM M M')) 30) _ _ k0
  have l1 := heap_past w1 (.cells (cv (meetV V M V' M') (meetM M M')) 30) _ _ k1
  have l2 := heap_past w1 (.cells (cv (meetV V M V' M') (meetM M M')) 30) _ _ k2
  have hB2 := hB1.alloc (by omega) (.cells (cv (meetV V M V' M') (meetM M M')) 30)
  go_wp2_with (first
    | (refine wl_storeC rfl _ _ rfl w1.heap.size _ _ rfl rfl _ (heap_new _ _ _ rfl) rfl hAl hBl _ (setRow_new _ _ _ _ _ rfl) ?_)
    | (refine wl_loadC rfl _ rfl w.heap.size rfl V M l0 hVl hMl ?_))
  refine (C1.out _).mono ?_
  rintro e w2 ⟨rfl, hb2⟩
  have m0 : w2.heap[w.heap.size]? = some (.cells (cv V M) 30 (0, 0)) := by rw [hb2.block _ (by simp; omega)]; exact l0
  have m1 : w2.heap[w.heap.size + 1]? = some (.cells (cv V' M') 30 (0, 0)) := by rw [hb2.block _ (by simp; omega)]; exact l1
  have m2 : w2.heap[w.heap.size + 2]? = some (.cells #[] 30 (0, 0)) := by rw [hb2.block _ (by simp; omega)]; exact l2
  have hB3 := hB2.trans (hb2.mono hB2.size)
  have hz2 : w.heap.size + 3 ≤ w2.heap.size := Nat.le_trans (by simp; omega) hb2.size
  clear k0 k1 k2 hB1 l0 l1 l2 hB2 hb2 C1
  have n0 := heap_past w2 (.cells (cv (can V M) M) 30) _ _ m0
  have n1 := heap_past w2 (.cells (cv (can V M) M) 30) _ _ m1
  have n2 := heap_past w2 (.cells (cv (can V M) M) 30) _ _ m2
  have n3 := heap_new w2 (.cells (cv (can V M) M) 30) _ rfl
  have hB4 := hB3.alloc (by omega) (.cells (cv (can V M) M) 30)
  go_wp2_with (first
    | (refine wl_storeC rfl _ _ rfl w2.heap.size (can V M) M rfl rfl _ (heap_new _ _ _ rfl) rfl hCl hMl _ (setRow_new _ _ _ _ _ rfl) ?_))
  go_loopw [5, 9] (fun v i wr => ∃ k : Nat, k ≤ 104 ∧ i = .int .i64 k ∧ ∃ (U N : List Int) (Cs : List (List Int × List Int)), Byt U ∧ Byt N ∧ Cs ++ rGo M V' M' (104 - k) k U N = R ∧ Cs.length ≤ k ∧ wr.ownsRow (w.heap.size + 2) 30 26 v Cs.length (ccells Cs) ∧ v.ownBlock ≠ some w2.heap.size
    ∧ wr.heap[w.heap.size]? = some (.cells (cv V M) 30 (0, 0)) ∧ wr.heap[w.heap.size + 1]? = some (.cells (cv V' M') 30 (0, 0)) ∧ wr.heap[w2.heap.size]? = some (.cells (cv U N) 30 (0, 0)) ∧ Below w.heap.size w wr) (fun _ i _ => 104 - (intOf i).toNat)
  case atStart => exact ⟨0, Nat.zero_le _, rfl, can V M, M, [], can_byt V M, HM.out, HR0.out, Nat.le_refl _, ⟨rfl, Or.inr ⟨w.heap.size + 2, 0, #[], rfl, Nat.le_refl _, n2, Nat.le_refl _, by decide, rfl, rfl⟩⟩, by simp [Value.ownBlock]; omega, n0, n1, n3, hB4⟩
  case round =>
    clear m0 m1 m2 hB3 n0 n1 n2 n3 hB4 HR0
    obtain ⟨k, hk, rfl, U, N, Cs, hU, hN, hR, hCs, hown, hne, g0, g1, g2, hb⟩ := hrel
    have hUl := hU.1
    have hNl := hN.1
    have hz := (Array.getElem?_eq_some_iff.1 g2).1
    have HR : Hid (Cs ++ rGo M V' M' (104 - k) k U N = R) := hR
    have HU : Hid (Byt U) := hU
    have HN : Hid (Byt N) := hN
    have OWN : Hid (wr.ownsRow (w.heap.size + 2) 30 26 u5 Cs.length (ccells Cs)) := hown
    have HNE : Hid (u5.ownBlock ≠ some w2.heap.size) := hne
    clear hU hN hR hown hne
    by_cases hlt : k < 104
    · obtain ⟨x, hx⟩ : ∃ x, x = atI V M k := ⟨_, rfl⟩
      obtain ⟨y, hy⟩ : ∃ y, y = atI V' M' k := ⟨_, rfl⟩
      have D1 : Hid (∀ W, Calls Try.prog 43 #[.agg (cv V M), .int .i64 (k : Int)] W fun e w' => e = .returned (.int .i64 x) ∧ Below W.heap.size W w') := by rw [hx]; exact CA.out k hlt
      have D2 : Hid (∀ W, Calls Try.prog 43 #[.agg (cv V' M'), .int .i64 (k : Int)] W fun e w' => e = .returned (.int .i64 y) ∧ Below W.heap.size W w') := by rw [hy]; exact CB.out k hlt
      have hx2 : (x == 2) = !(bt M k) := by rw [hx]; unfold atI; cases bt M k <;> cases bt V k <;> rfl
      have hy2 : (y != 2) = bt M' k := by rw [hy, at_ne2]
      have HY : Hid (y = atI V' M' k) := hy
      clear hx hy
      go_wp2_with (first
        | (refine wl_loadC rfl _ rfl (w.heap.size + 1) rfl V' M' g1 hVl' hMl' ?_))
      refine (D2.out _).mono ?_
      rintro e w3 ⟨rfl, hb3⟩
      have k0 : w3.heap[w.heap.size]? = some (.cells (cv V M) 30 (0, 0)) := by rw [hb3.block _ (by omega)]; exact g0
      have k1 : w3.heap[w.heap.size + 1]? = some (.cells (cv V' M') 30 (0, 0)) := by rw [hb3.block _ (by omega)]; exact g1
      have k2 : w3.heap[w2.heap.size]? = some (.cells (cv U N) 30 (0, 0)) := by rw [hb3.block _ (by omega)]; exact g2
      have hB5 := hb.trans (hb3.mono hb.size)
      have hz5 := Nat.lt_of_lt_of_le hz hb3.size
      have OWN3 : Hid (w3.ownsRow (w.heap.size + 2) 30 26 u5 Cs.length (ccells Cs)) := own_below OWN.out hb3
      clear g0 g1 g2 hb hb3 D2 OWN hz
      go_wp2_with (first
        | (refine wl_loadC rfl _ rfl w.heap.size rfl V M k0 hVl hMl ?_))
      refine (D1.out _).mono ?_
      rintro e w4 ⟨rfl, hb4⟩
      have l0 : w4.heap[w.heap.size]? = some (.cells (cv V M) 30 (0, 0)) := by rw [hb4.block _ (by omega)]; exact k0
      have l1 : w4.heap[w.heap.size + 1]? = some (.cells (cv V' M') 30 (0, 0)) := by rw [hb4.block _ (by omega)]; exact k1
      have l2 : w4.heap[w2.heap.size]? = some (.cells (cv U N) 30 (0, 0)) := by rw [hb4.block _ (by omega)]; exact k2
      have hB6 := hB5.trans (hb4.mono hB5.size)
      have hz6 := Nat.lt_of_lt_of_le hz5 hb4.size
      have OWN4 : Hid (w4.ownsRow (w.heap.size + 2) 30 26 u5 Cs.length (ccells Cs)) := own_below OWN3.out hb4
      clear k0 k1 k2 hB5 hb4 D1 OWN3 hz5
      cases hbm : bt M k
      · rw [hbm, Bool.not_false] at hx2
        have HBM : Hid (bt M k = false) := hbm
        cases hbm' : bt M' k
        · rw [hbm'] at hy2
          have HBM' : Hid (bt M' k = false) := hbm'
          clear hbm hbm'
          go_wp2_with fail
          go_roundw
          case rel =>
            refine ⟨k + 1, by omega, by go_num, U, N, Cs, HU.out, HN.out, ?_, by omega, OWN4.out, HNE.out, l0, l1, l2, hB6⟩
            have := HR.out
            rwa [show 104 - k = (104 - (k + 1)) + 1 by omega, rGo_pass _ _ _ _ _ _ _ (fun h => by rw [HBM'.out] at h; cases h.2)] at this
          case measure => simp [intOf]; omega
        · rw [hbm'] at hy2
          have HBM' : Hid (bt M' k = true) := hbm'
          obtain ⟨i0, hi, hz0', hz1', hz2'⟩ := infoC
          cases hbv : bt V' k
          · have hye : y = 0 := by rw [HY.out]; unfold atI; rw [hbm', hbv]; rfl
            subst hye
            have HBV : Hid (bt V' k = false) := hbv
            have F1 : Hid (∀ W, Calls Try.prog 45 #[.agg (cv U N), .int .i64 (k : Int), .int .i64 1] W fun e w' => e = .returned (.agg (cv (setb U k true) (setb N k true))) ∧ Below W.heap.size W w') := rset_any U N HU.out HN.out k hlt 1
            have F2 : Hid (∀ W, Calls Try.prog 45 #[.agg (cv U N), .int .i64 (k : Int), .int .i64 0] W fun e w' => e = .returned (.agg (cv (setb U k false) (setb N k true))) ∧ Below W.heap.size W w') := rset_any U N HU.out HN.out k hlt 0
            have hP1 := (setb_byt U k true).1
            have hP2 := (setb_byt N k true).1
            have hP3 := (setb_byt U k false).1
            clear hbm hbm' hbv
            go_wp2_with (first
              | (refine wl_loadC rfl _ rfl w2.heap.size rfl U N l2 hUl hNl ?_))
            refine (F1.out _).mono ?_
            rintro e w6 ⟨rfl, hb6⟩
            have n0 : w6.heap[w.heap.size]? = some (.cells (cv V M) 30 (0, 0)) := by rw [hb6.block _ (by omega)]; exact l0
            have n1 : w6.heap[w.heap.size + 1]? = some (.cells (cv V' M') 30 (0, 0)) := by rw [hb6.block _ (by omega)]; exact l1
            have n2 : w6.heap[w2.heap.size]? = some (.cells (cv U N) 30 (0, 0)) := by rw [hb6.block _ (by omega)]; exact l2
            have hB8 := hB6.trans (hb6.mono hB6.size)
            have hz8 := Nat.lt_of_lt_of_le hz6 hb6.size
            have hown6 := own_below OWN4.out hb6
            clear l0 l1 l2 hB6 hb6 OWN4 hz6 F1
            have hB2 : ∀ g, u5.ownBlock = some g → w.heap.size + 2 ≤ g ∧ g ≠ w2.heap.size := fun g hg => ⟨(hown6.lt _ hg).1, fun e => HNE.out (by rw [hg, e])⟩
            have hcl : (cv (setb U k true) (setb N k true)).toList.length = 1 * 26 := by rw [Array.length_toList, cv_size _ _ hP1 hP2]
            have hco : ∀ u ∈ (cv (setb U k true) (setb N k true)).toList, u.oneCell' = true := fun u hu => (Array.all_eq_true_iff_forall_mem.1 (cv_one (setb U k true) (setb N k true))) u (by simpa using hu)
            go_wp2_with (first
              | (refine wl_build1 rfl _ rfl (setb U k true) (setb N k true) hP1 hP2 rfl ?_)
              | (at_builtin; refine of_stopped ?_))
            unfold Stopped
            refine wpList_append_own_at _ rfl _ _ 22 rfl (w.heap.size + 2) 30 i0 (.agg zeroC) 26 26 Try.underlying22 hi hz0' hz1' hz2' rfl (by decide) _ _ _ rfl (hown6.alloc _) ⟨w6.heap.size, 0, none⟩ 1 1 (cv (setb U k true) (setb N k true)).toList rfl hcl (cells_new w6 _ _) hco (by unfold maxLen; omega) (by omega) (by simp; omega) ?_
            intro v' w7 hown' hgrow7 hnil7 hat7
            have p0 : w7.heap[w.heap.size]? = some (.cells (cv V M) 30 (0, 0)) := by
              rw [hgrow7.block _ (by simp; omega) (fun h => by have := hB2 _ h.symm; omega)]; exact heap_past _ _ _ _ n0
            have p1 : w7.heap[w.heap.size + 1]? = some (.cells (cv V' M') 30 (0, 0)) := by
              rw [hgrow7.block _ (by simp; omega) (fun h => by have := hB2 _ h.symm; omega)]; exact heap_past _ _ _ _ n1
            have p2 : w7.heap[w2.heap.size]? = some (.cells (cv U N) 30 (0, 0)) := by
              rw [hgrow7.block _ (by simp; omega) (fun h => by have := hB2 _ h.symm; omega)]; exact heap_past _ _ _ _ n2
            have hB9 : Below w.heap.size w w7 := (hB8.alloc (by omega) _).grown hgrow7 (by simp; omega) (fun g hg => by have := hB2 g hg; omega)
            have hz9 : w2.heap.size < w7.heap.size := Nat.lt_of_lt_of_le (by simp; omega) hgrow7.size
            have HNE7 : Hid (v'.ownBlock ≠ some w2.heap.size) := by
              rcases hat7 with h | h
              · show _ ≠ _; rw [h]; exact HNE.out
              · show _ ≠ _; rw [h]; simp; omega
            have OWN7 : Hid (w7.ownsRow (w.heap.size + 2) 30 26 v' (Cs ++ [(setb U k true, setb N k true)]).length (ccells (Cs ++ [(setb U k true, setb N k true)]))) := by
              show World.ownsRow _ _ _ _ _ _ _
              rw [ccells_append, ccells_one, List.length_append]; exact hown'
            clear hown' hgrow7 hnil7 hat7 hown6 hB2 hcl hco n0 n1 n2 hB8 hi hz0' hz1' hz2' hz8
            simp only [Act.put, List.setIfInBounds_toArray, List.set_cons_succ, List.set_cons_zero]
            go_wp2_with (first
              | (refine wl_loadC rfl _ rfl w2.heap.size rfl U N p2 hUl hNl ?_))
            refine (F2.out _).mono ?_
            rintro e w8 ⟨rfl, hb8⟩
            have q0 : w8.heap[w.heap.size]? = some (.cells (cv V M) 30 (0, 0)) := by rw [hb8.block _ (by omega)]; exact p0
            have q1 : w8.heap[w.heap.size + 1]? = some (.cells (cv V' M') 30 (0, 0)) := by rw [hb8.block _ (by omega)]; exact p1
            have q2 : w8.heap[w2.heap.size]? = some (.cells (cv U N) 30 (0, 0)) := by rw [hb8.block _ (by omega)]; exact p2
            have hB10 := hB9.trans (hb8.mono hB9.size)
            have OWN8 : Hid (w8.ownsRow (w.heap.size + 2) 30 26 v' (Cs ++ [(setb U k true, setb N k true)]).length (ccells (Cs ++ [(setb U k true, setb N k true)]))) := own_below OWN7.out hb8
            clear p0 p1 p2 hB9 hb8 OWN7 hz9 F2
            go_wp2_with (first
              | (refine wl_storeC rfl _ _ rfl w2.heap.size (setb U k false) (setb N k true) rfl rfl _ q2 (cv_size _ _ hUl hNl) hP3 hP2 _ rfl ?_))
            go_roundw
            case rel =>
              refine ⟨k + 1, by omega, by go_num, setb U k false, setb N k true, Cs ++ [(setb U k true, setb N k true)], setb_byt _ _ _, setb_byt _ _ _, ?_, by simp; omega, own_setRow_ne OWN8.out _ HNE7.out _, HNE7.out, (setRow_other _ _ _ _ (by omega)).trans q0, (setRow_other _ _ _ _ (by omega)).trans q1, setRow_heap _ _ _ _ _ _ q2, below_setRow hB10 (by omega) _⟩
              have := HR.out
              rw [show 104 - k = (104 - (k + 1)) + 1 by omega, rGo_cut _ _ _ _ _ _ _ HBM.out HBM'.out, HBV.out] at this
              rw [List.append_assoc]
              exact this
            case measure => simp [intOf]; omega
          · have hye : y = 1 := by rw [HY.out]; unfold atI; rw [hbm', hbv]; rfl
            subst hye
            have HBV : Hid (bt V' k = true) := hbv
            have F1 : Hid (∀ W, Calls Try.prog 45 #[.agg (cv U N), .int .i64 (k : Int), .int .i64 0] W fun e w' => e = .returned (.agg (cv (setb U k false) (setb N k true))) ∧ Below W.heap.size W w') := rset_any U N HU.out HN.out k hlt 0
            have F2 : Hid (∀ W, Calls Try.prog 45 #[.agg (cv U N), .int .i64 (k : Int), .int .i64 1] W fun e w' => e = .returned (.agg (cv (setb U k true) (setb N k true))) ∧ Below W.heap.size W w') := rset_any U N HU.out HN.out k hlt 1
            have hP1 := (setb_byt U k false).1
            have hP2 := (setb_byt N k true).1
            have hP3 := (setb_byt U k true).1
            clear hbm hbm' hbv
            go_wp2_with (first
              | (refine wl_loadC rfl _ rfl w2.heap.size rfl U N l2 hUl hNl ?_))
            refine (F1.out _).mono ?_
            rintro e w6 ⟨rfl, hb6⟩
            have n0 : w6.heap[w.heap.size]? = some (.cells (cv V M) 30 (0, 0)) := by rw [hb6.block _ (by omega)]; exact l0
            have n1 : w6.heap[w.heap.size + 1]? = some (.cells (cv V' M') 30 (0, 0)) := by rw [hb6.block _ (by omega)]; exact l1
            have n2 : w6.heap[w2.heap.size]? = some (.cells (cv U N) 30 (0, 0)) := by rw [hb6.block _ (by omega)]; exact l2
            have hB8 := hB6.trans (hb6.mono hB6.size)
            have hz8 := Nat.lt_of_lt_of_le hz6 hb6.size
            have hown6 := own_below OWN4.out hb6
            clear l0 l1 l2 hB6 hb6 OWN4 hz6 F1
            have hB2 : ∀ g, u5.ownBlock = some g → w.heap.size + 2 ≤ g ∧ g ≠ w2.heap.size := fun g hg => ⟨(hown6.lt _ hg).1, fun e => HNE.out (by rw [hg, e])⟩
            have hcl : (cv (setb U k false) (setb N k true)).toList.length = 1 * 26 := by rw [Array.length_toList, cv_size _ _ hP1 hP2]
            have hco : ∀ u ∈ (cv (setb U k false) (setb N k true)).toList, u.oneCell' = true := fun u hu => (Array.all_eq_true_iff_forall_mem.1 (cv_one (setb U k false) (setb N k true))) u (by simpa using hu)
            go_wp2_with (first
              | (refine wl_build1 rfl _ rfl (setb U k false) (setb N k true) hP1 hP2 rfl ?_)
              | (at_builtin; refine of_stopped ?_))
            unfold Stopped
            refine wpList_append_own_at _ rfl _ _ 22 rfl (w.heap.size + 2) 30 i0 (.agg zeroC) 26 26 Try.underlying22 hi hz0' hz1' hz2' rfl (by decide) _ _ _ rfl (hown6.alloc _) ⟨w6.heap.size, 0, none⟩ 1 1 (cv (setb U k false) (setb N k true)).toList rfl hcl (cells_new w6 _ _) hco (by unfold maxLen; omega) (by omega) (by simp; omega) ?_
            intro v' w7 hown' hgrow7 hnil7 hat7
            have p0 : w7.heap[w.heap.size]? = some (.cells (cv V M) 30 (0, 0)) := by
              rw [hgrow7.block _ (by simp; omega) (fun h => by have := hB2 _ h.symm; omega)]; exact heap_past _ _ _ _ n0
            have p1 : w7.heap[w.heap.size + 1]? = some (.cells (cv V' M') 30 (0, 0)) := by
              rw [hgrow7.block _ (by simp; omega) (fun h => by have := hB2 _ h.symm; omega)]; exact heap_past _ _ _ _ n1
            have p2 : w7.heap[w2.heap.size]? = some (.cells (cv U N) 30 (0, 0)) := by
              rw [hgrow7.block _ (by simp; omega) (fun h => by have := hB2 _ h.symm; omega)]; exact heap_past _ _ _ _ n2
            have hB9 : Below w.heap.size w w7 := (hB8.alloc (by omega) _).grown hgrow7 (by simp; omega) (fun g hg => by have := hB2 g hg; omega)
            have hz9 : w2.heap.size < w7.heap.size := Nat.lt_of_lt_of_le (by simp; omega) hgrow7.size
            have HNE7 : Hid (v'.ownBlock ≠ some w2.heap.size) := by
              rcases hat7 with h | h
              · show _ ≠ _; rw [h]; exact HNE.out
              · show _ ≠ _; rw [h]; simp; omega
            have OWN7 : Hid (w7.ownsRow (w.heap.size + 2) 30 26 v' (Cs ++ [(setb U k false, setb N k true)]).length (ccells (Cs ++ [(setb U k false, setb N k true)]))) := by
              show World.ownsRow _ _ _ _ _ _ _
              rw [ccells_append, ccells_one, List.length_append]; exact hown'
            clear hown' hgrow7 hnil7 hat7 hown6 hB2 hcl hco n0 n1 n2 hB8 hi hz0' hz1' hz2' hz8
            simp only [Act.put, List.setIfInBounds_toArray, List.set_cons_succ, List.set_cons_zero]
            go_wp2_with (first
              | (refine wl_loadC rfl _ rfl w2.heap.size rfl U N p2 hUl hNl ?_))
            refine (F2.out _).mono ?_
            rintro e w8 ⟨rfl, hb8⟩
            have q0 : w8.heap[w.heap.size]? = some (.cells (cv V M) 30 (0, 0)) := by rw [hb8.block _ (by omega)]; exact p0
            have q1 : w8.heap[w.heap.size + 1]? = some (.cells (cv V' M') 30 (0, 0)) := by rw [hb8.block _ (by omega)]; exact p1
            have q2 : w8.heap[w2.heap.size]? = some (.cells (cv U N) 30 (0, 0)) := by rw [hb8.block _ (by omega)]; exact p2
            have hB10 := hB9.trans (hb8.mono hB9.size)
            have OWN8 : Hid (w8.ownsRow (w.heap.size + 2) 30 26 v' (Cs ++ [(setb U k false, setb N k true)]).length (ccells (Cs ++ [(setb U k false, setb N k true)]))) := own_below OWN7.out hb8
            clear p0 p1 p2 hB9 hb8 OWN7 hz9 F2
            go_wp2_with (first
              | (refine wl_storeC rfl _ _ rfl w2.heap.size (setb U k true) (setb N k true) rfl rfl _ q2 (cv_size _ _ hUl hNl) hP3 hP2 _ rfl ?_))
            go_roundw
            case rel =>
              refine ⟨k + 1, by omega, by go_num, setb U k true, setb N k true, Cs ++ [(setb U k false, setb N k true)], setb_byt _ _ _, setb_byt _ _ _, ?_, by simp; omega, own_setRow_ne OWN8.out _ HNE7.out _, HNE7.out, (setRow_other _ _ _ _ (by omega)).trans q0, (setRow_other _ _ _ _ (by omega)).trans q1, setRow_heap _ _ _ _ _ _ q2, below_setRow hB10 (by omega) _⟩
              have := HR.out
              rw [show 104 - k = (104 - (k + 1)) + 1 by omega, rGo_cut _ _ _ _ _ _ _ HBM.out HBM'.out, HBV.out] at this
              rw [List.append_assoc]
              exact this
            case measure => simp [intOf]; omega
      · rw [hbm, Bool.not_true] at hx2
        have HBM : Hid (bt M k = true) := hbm
        clear hbm
        go_wp2_with fail
        go_roundw
        case rel =>
          refine ⟨k + 1, by omega, by go_num, U, N, Cs, HU.out, HN.out, ?_, by omega, OWN4.out, HNE.out, l0, l1, l2, hB6⟩
          have := HR.out
          rwa [show 104 - k = (104 - (k + 1)) + 1 by omega, rGo_pass _ _ _ _ _ _ _ (fun h => by rw [HBM.out] at h; cases h.1)] at this
        case measure => simp [intOf]; omega
    · obtain rfl : k = 104 := by omega
      go_wp2_with fail
      go_ret
      have hr := HR.out
      rw [show 104 - 104 = 0 from rfl, rGo, List.append_nil] at hr
      subst hr
      exact ⟨_, rfl, own_base OWN.out (by omega), hb⟩

theorem rminus_any (V M V' M' : List Int) (hV : Byt V) (hM : Byt M) (hV' : Byt V') (hM' : Byt M') (w : World) :
    Calls Try.prog 34 #[.agg (cv V M), .agg (cv V' M')] w fun e w' => ∃ v, e = .returned v ∧ w'.ownsRow w.heap.size 30 26 v (minusC V M V' M').length (ccells (minusC V M V' M')) ∧ Below w.heap.size w w' := by
  cases h : meets V M V' M'
  · exact rminus_no V M V' M' hV hM hV' hM' h w
  · exact rminus_yes V M V' M' hV hM hV' hM' h w
end Go.Proofs.Ytjlghkiplapodaa
namespace Go.Proofs.Ytjlghkiplapodaa
open Go Go.RowKit

/-- All cubes of a list have their bytes. -/
def Byts (C : List (List Int × List Int)) : Prop := ∀ c ∈ C, Byt c.1 ∧ Byt c.2
theorem byts_rGo (M V' M' : List Int) : ∀ (f i : Nat) (RV RM : List Int), Byts (rGo M V' M' f i RV RM)
  | 0, _, _, _ => fun c hc => by simp [rGo] at hc
  | f + 1, i, RV, RM => by
    rw [rGo]
    split
    · intro c hc
      rcases List.mem_cons.1 hc with h | h
      · rw [h]; exact ⟨setb_byt _ _ _, setb_byt _ _ _⟩
      · exact byts_rGo M V' M' f (i + 1) _ _ c h
    · exact byts_rGo M V' M' f (i + 1) _ _
theorem byts_minus (V M V' M' : List Int) (hM : Byt M) : Byts (minusC V M V' M') := by
  cases h : meets V M V' M'
  · rw [minusC_no _ _ _ _ h]
    intro c hc
    have : c = (can V M, M) := by simpa using hc
    rw [this]; exact ⟨can_byt _ _, hM⟩
  · rw [minus_rGo _ _ _ _ h]; exact byts_rGo _ _ _ _ _ _ _
theorem len_rGo (M V' M' : List Int) : ∀ (f i : Nat) (RV RM : List Int), (rGo M V' M' f i RV RM).length ≤ f
  | 0, _, _, _ => by simp [rGo]
  | f + 1, i, RV, RM => by
    rw [rGo]
    split
    · rw [List.length_cons]; exact Nat.succ_le_succ (len_rGo M V' M' f (i + 1) _ _)
    · exact Nat.le_succ_of_le (len_rGo M V' M' f (i + 1) _ _)
theorem len_minus (V M V' M' : List Int) : (minusC V M V' M').length ≤ 104 := by
  cases h : meets V M V' M'
  · rw [minusC_no _ _ _ _ h]; simp
  · rw [minus_rGo _ _ _ _ h]; exact len_rGo _ _ _ _ _ _ _

theorem ccells_at : ∀ (C : List (List Int × List Int)), Byts C → ∀ (i : Nat) (hi : i < C.length) (j : Nat), j < 26 → (ccells C)[26 * i + j]? = (cv C[i].1 C[i].2)[j]?
  | [], _, i, hi, _, _ => by simp at hi
  | c :: C, hC, i, hi, j, hj => by
    have h1 := hC c (by simp)
    have hl : (cv c.1 c.2).toList.length = 26 := by rw [Array.length_toList, cv_size _ _ h1.1.1 h1.2.1]
    have e : ccells (c :: C) = (cv c.1 c.2).toList ++ ccells C := by simp [ccells]
    rw [e]
    match i, hi with
    | 0, _ =>
      rw [List.getElem?_append_left (by omega)]
      simp
    | i + 1, hi =>
      rw [List.getElem?_append_right (by omega), hl, show 26 * (i + 1) + j - 26 = 26 * i + j by omega, ccells_at C (fun c hc => hC c (by simp [hc])) i (by simpa using hi) j hj]
      rfl

/-- A slice whose elements are these cubes. -/
def Row (w : World) (v : Value) (C : List (List Int × List Int)) : Prop :=
  ∃ (o : Option Addr) (cap : Nat), v = .slice o C.length cap ∧ ∀ (i : Nat) (hi : i < C.length), ∃ g cur, o = some ⟨g, 0, none⟩ ∧ w.heap[g]? = some (.cells cur 30 (0, 0)) ∧ ∀ j, j < 26 → cur[26 * i + j]? = (cv C[i].1 C[i].2)[j]?
theorem row_of {w : World} {B : Nat} {v : Value} {C : List (List Int × List Int)} (h : w.ownsRow B 30 26 v C.length (ccells C)) (hC : Byts C) : Row w v C := by
  obtain ⟨h1, ⟨rfl, h2⟩ | ⟨g, cap, cur, rfl, hB, hcur, _, _, _, h4⟩⟩ := h
  · exact ⟨none, 0, by rw [h2], fun i hi => by omega⟩
  · refine ⟨_, cap, rfl, fun i hi => ⟨g, cur, rfl, hcur, fun j hj => ?_⟩⟩
    rw [← ccells_at C hC i hi j hj, ← h4, List.getElem?_take_of_lt (by omega)]
    simp
theorem Row.below {w w' : World} {v : Value} {C : List (List Int × List Int)} (h : Row w v C) (hb : Below w.heap.size w w') : Row w' v C := by
  obtain ⟨o, cap, rfl, h2⟩ := h
  refine ⟨o, cap, rfl, fun i hi => ?_⟩
  obtain ⟨g, cur, h3, h4, h5⟩ := h2 i hi
  exact ⟨g, cur, h3, (hb.block g (Array.getElem?_eq_some_iff.1 h4).1).trans h4, h5⟩

theorem qlCat {W : World} {ops : Array Oper} {Q : Act → Prop} {rest : List Oper} {o : Oper} {a : Act} (hw : Region.wanted o (yielded ops a.tmps) = true) (x : Operand) (ho : o.op = .load 30 x)
    (g off : Nat) (hx : a.eval x = .pointer (some ⟨g, off, none⟩)) (cs : Array Value) (t : TypeId) (V M : List Int) (hV : V.length = 13) (hM : M.length = 13) (hg : W.heap[g]? = some (.cells cs t (0, 0))) (hc : ∀ j, j < 26 → cs[off + j]? = (cv V M)[j]?)
    (h : wpQuiet Try.prog ops (fun w' => ∃ u : Later W, w' = u.world) Q rest (a.put o.dst (.agg (cv V M)))) : wpQuiet Try.prog ops (fun w' => ∃ u : Later W, w' = u.world) Q (o :: rest) a := by
  refine BigFrame.wpQuiet_want hw fun K hK => ⟨.agg (cv V M), fun w hC => ?_, hK _ h⟩
  unfold Oper.quietAt execOp
  simp only [ho, hx, Instr.loadAt, Instr.sureAddr, Sem.run_bind, Sem.run_pure, Result.andThen_ok, load_cube w g off cs t (0, 0) V M hV hM (later_block hg w hC) hc]
  exact ⟨rfl, rfl⟩

set_option maxHeartbeats 2000000 in
theorem same_any (C : List (List Int × List Int)) (hC : Byts C) (hn : C.length ≤ 104) (va vb : Value) (w : World) (ha : Row w va C) (hb : Row w vb C) :
    Calls Try.prog 17 #[va, vb] w fun e w' => e = .returned (.bool true) ∧ Below w.heap.size w w' := by
  obtain ⟨oa, ca, rfl, ha⟩ := ha
  obtain ⟨ob, cb, rfl, hb⟩ := hb
  obtain ⟨n, hne⟩ : ∃ n, n = C.length := ⟨_, rfl⟩
  have HA : Hid (∀ (i : Nat) (hi : i < C.length), ∃ g cur, oa = some ⟨g, 0, none⟩ ∧ w.heap[g]? = some (.cells cur 30 (0, 0)) ∧ ∀ j, j < 26 → cur[26 * i + j]? = (cv C[i].1 C[i].2)[j]?) := ha
  have HB : Hid (∀ (i : Nat) (hi : i < C.length), ∃ g cur, ob = some ⟨g, 0, none⟩ ∧ w.heap[g]? = some (.cells cur 30 (0, 0)) ∧ ∀ j, j < 26 → cur[26 * i + j]? = (cv C[i].1 C[i].2)[j]?) := hb
  have HC : Hid (Byts C) := hC
  have HN : Hid (n = C.length) := hne
  have hn2 : n ≤ 104 := by omega
  have eg : ∀ op x y (xs ys : Array Value) w, (eqGuard op 30 x y (.agg xs) (.agg ys)).run Try.prog w = .ok () w := egC
  rw [← hne]
  clear ha hb hC hn hne
  go_enter Try.func17, Try.ntmps17
  go_wp2_with fail
  go_loopw [5] (fun i wr => ∃ k : Nat, k ≤ n ∧ i = .int .i64 k ∧ Below w.heap.size w wr) (fun i _ => n - (intOf i).toNat)
  case atStart => exact ⟨0, Nat.zero_le _, rfl, Below.refl _ _⟩
  case round =>
    obtain ⟨k, hk, rfl, hbw⟩ := hrel
    by_cases hlt : k < n
    · obtain ⟨ga, cura, rfl, hga, hca⟩ := HA.out k (by rw [← HN.out]; exact hlt)
      obtain ⟨gb, curb, rfl, hgb, hcb⟩ := HB.out k (by rw [← HN.out]; exact hlt)
      obtain ⟨U, N, hUN⟩ : ∃ U N, (U, N) = C[k]'(by rw [← HN.out]; exact hlt) := ⟨_, _, rfl⟩
      have hby := HC.out (C[k]'(by rw [← HN.out]; exact hlt)) (List.getElem_mem _)
      rw [← hUN] at hca hcb hby
      have hUl : U.length = 13 := hby.1.1
      have hNl : N.length = 13 := hby.2.1
      have e1 : ∀ w, (Op.equalIn 10000 30 (.agg (cv U N)) (.agg (cv U N))).run Try.prog w = .ok true w := fun w => by rw [eqC _ _ _ _ hUl hNl hUl hNl]; simp
      have hga' : wr.heap[ga]? = some (.cells cura 30 (0, 0)) := (hbw.block ga (Array.getElem?_eq_some_iff.1 hga).1).trans hga
      have hgb' : wr.heap[gb]? = some (.cells curb 30 (0, 0)) := (hbw.block gb (Array.getElem?_eq_some_iff.1 hgb).1).trans hgb
      have HCA : Hid (∀ j, j < 26 → cura[k * 26 + j]? = (cv U N)[j]?) := fun j hj => by rw [Nat.mul_comm]; exact hca j hj
      have HCB : Hid (∀ j, j < 26 → curb[k * 26 + j]? = (cv U N)[j]?) := fun j hj => by rw [Nat.mul_comm]; exact hcb j hj
      clear hUN hby hga hgb hca hcb
      go_wp2_with fail
      have ne1 := Later.ne wr
      refine wp_region_later (by kernel_rfl) (by kernel_rfl) ?_
      go_big_quiet_step (fail)
      go_big_quiet_step (fail)
      go_big_quiet_step (fail)
      refine qlCat rfl _ rfl ga (k * 26) rfl cura _ U N hUl hNl hga' HCA.out ?_
      simp only [Act.put, List.setIfInBounds_toArray, List.set_cons_succ, List.set_cons_zero]
      go_big_quiet_step (fail)
      go_big_quiet_step (fail)
      go_big_quiet_step (fail)
      refine qlCat rfl _ rfl gb (k * 26) rfl curb _ U N hUl hNl hgb' HCB.out ?_
      simp only [Act.put, List.setIfInBounds_toArray, List.set_cons_succ, List.set_cons_zero]
      go_big_quiet_step (fail)
      refine wpQuiet_nil ?_
      rintro w' ⟨u, rfl⟩
      go_wp2_with fail
      go_roundw
      case rel => exact ⟨k + 1, by omega, by go_num, hbw.trans (u.below.mono hbw.size)⟩
      case measure => simp [intOf]; omega
    · obtain rfl : k = n := by omega
      go_wp2_with fail
      go_ret
      exact ⟨rfl, hbw⟩
end Go.Proofs.Ytjlghkiplapodaa
namespace Go.Proofs.Ytjlghkiplapodaa
open Go Go.RowKit

/-- Has one of these cubes a header? -/
def hasL (C : List (List Int × List Int)) (H : List Int) : Bool := C.any fun c => has c.1 c.2 H

/-- A slice, wherever it lies, whose elements are these cubes. -/
def Sl (w : World) (v : Value) (C : List (List Int × List Int)) : Prop :=
  Byts C ∧ ∃ (o : Option Addr) (cap : Nat), v = .slice o C.length cap ∧ C.length ≤ cap ∧ cap ≤ maxLen ∧ ∀ (i : Nat) (hi : i < C.length), ∃ g off cur t fr, o = some ⟨g, off, none⟩ ∧ w.heap[g]? = some (.cells cur t fr) ∧ ∀ j, j < 26 → cur[off + i * 26 + j]? = (cv C[i].1 C[i].2)[j]?

theorem Sl.byts {w : World} {v : Value} {C : List (List Int × List Int)} (h : Sl w v C) : Byts C := h.1
theorem Sl.below {w w' : World} {v : Value} {C : List (List Int × List Int)} (h : Sl w v C) (hb : Below w.heap.size w w') : Sl w' v C := by
  obtain ⟨h0, o, cap, rfl, h1, h2, h3⟩ := h
  refine ⟨h0, o, cap, rfl, h1, h2, fun i hi => ?_⟩
  obtain ⟨g, off, cur, t, fr, h4, h5, h6⟩ := h3 i hi
  exact ⟨g, off, cur, t, fr, h4, (hb.block g (Array.getElem?_eq_some_iff.1 h5).1).trans h5, h6⟩
/-- The same, but that blocks from a place on may have turned. -/
theorem Sl.belowAt {w w' : World} {v : Value} {C : List (List Int × List Int)} {B : Nat} (h : Sl w v C) (hw : w.heap.size ≤ B) (hb : Below B w w') : Sl w' v C := h.below (hb.mono hw)
theorem Sl.slice {w : World} {v : Value} {C : List (List Int × List Int)} (h : Sl w v C) : ∃ (o : Option Addr) (cap : Nat), v = .slice o C.length cap ∧ C.length ≤ cap ∧ cap ≤ maxLen := by
  obtain ⟨_, o, cap, h1, h2, h3, _⟩ := h
  exact ⟨o, cap, h1, h2, h3⟩
/-- One element. -/
theorem Sl.at {w : World} {o : Option Addr} {n cap : Nat} {C : List (List Int × List Int)} (h : Sl w (.slice o n cap) C) (k : Nat) (hk : k < n) :
    ∃ g off cur t fr U N, o = some ⟨g, off, none⟩ ∧ w.heap[g]? = some (.cells cur t fr) ∧ (∀ j, j < 26 → cur[off + k * 26 + j]? = (cv U N)[j]?) ∧ C[k]? = some (U, N) ∧ Byt U ∧ Byt N := by
  obtain ⟨h0, o', cap', h1, _, _, h3⟩ := h
  simp only [Value.slice.injEq] at h1
  obtain ⟨rfl, rfl, rfl⟩ := h1
  obtain ⟨g, off, cur, t, fr, h4, h5, h6⟩ := h3 k hk
  exact ⟨g, off, cur, t, fr, C[k].1, C[k].2, h4, h5, h6, List.getElem?_eq_getElem hk, (h0 _ (List.getElem_mem _)).1, (h0 _ (List.getElem_mem _)).2⟩
theorem Sl.len {w : World} {o : Option Addr} {n cap : Nat} {C : List (List Int × List Int)} (h : Sl w (.slice o n cap) C) : n = C.length ∧ n ≤ cap ∧ cap ≤ maxLen := by
  obtain ⟨h0, o', cap', h1, h2, h3, _⟩ := h
  simp only [Value.slice.injEq] at h1
  obtain ⟨rfl, rfl, rfl⟩ := h1
  exact ⟨rfl, h2, h3⟩
/-- The first ones of a slice. -/
theorem Sl.take {w : World} {o : Option Addr} {n cap : Nat} {C : List (List Int × List Int)} (h : Sl w (.slice o n cap) C) (k : Nat) (hk : k ≤ n) : Sl w (.slice o k cap) (C.take k) := by
  obtain ⟨h0, o', cap', h1, h2, h3, h4⟩ := h
  simp only [Value.slice.injEq] at h1
  obtain ⟨rfl, rfl, rfl⟩ := h1
  have e : (C.take k).length = k := by rw [List.length_take]; omega
  refine ⟨fun c hc => h0 c (List.mem_of_mem_take hc), o, cap, by rw [e], by omega, h3, fun i hi => ?_⟩
  obtain ⟨g, off, cur, t, fr, h5, h6, h7⟩ := h4 i (by omega)
  exact ⟨g, off, cur, t, fr, h5, h6, fun j hj => by rw [h7 j hj, List.getElem_take]⟩
theorem sl_of {w : World} {B : Nat} {v : Value} {C : List (List Int × List Int)} (h : w.ownsRow B 30 26 v C.length (ccells C)) (hC : Byts C) : Sl w v C := by
  refine ⟨hC, ?_⟩
  obtain ⟨h1, ⟨rfl, h2⟩ | ⟨g, cap, cur, rfl, hB, hcur, h5, h6, _, h4⟩⟩ := h
  · exact ⟨none, 0, by rw [h2], by omega, Nat.zero_le _, fun i hi => by omega⟩
  · refine ⟨_, cap, rfl, h5, h6, fun i hi => ⟨g, 0, cur, _, _, rfl, hcur, fun j hj => ?_⟩⟩
    rw [← ccells_at C hC i hi j hj, ← h4, List.getElem?_take_of_lt (by omega), Nat.zero_add, Nat.mul_comm]
    simp

theorem qlSl {W : World} {ops : Array Oper} {Q : Act → Prop} {rest : List Oper} {o : Oper} {a : Act} (hw : Region.wanted o (yielded ops a.tmps) = true) (x : Operand) (ho : o.op = .load 30 x)
    (g off : Nat) (hx : a.eval x = .pointer (some ⟨g, off, none⟩)) (cs : Array Value) (t : TypeId) (fr : Nat × Nat) (V M : List Int) (hV : V.length = 13) (hM : M.length = 13) (hg : W.heap[g]? = some (.cells cs t fr)) (hc : ∀ j, j < 26 → cs[off + j]? = (cv V M)[j]?)
    (h : wpQuiet Try.prog ops (fun w' => ∃ u : Later W, w' = u.world) Q rest (a.put o.dst (.agg (cv V M)))) : wpQuiet Try.prog ops (fun w' => ∃ u : Later W, w' = u.world) Q (o :: rest) a := by
  refine BigFrame.wpQuiet_want hw fun K hK => ⟨.agg (cv V M), fun w hC => ?_, hK _ h⟩
  unfold Oper.quietAt execOp
  simp only [ho, hx, Instr.loadAt, Instr.sureAddr, Sem.run_bind, Sem.run_pure, Result.andThen_ok, load_cube w g off cs t fr V M hV hM (later_block hg w hC) hc]
  exact ⟨rfl, rfl⟩

theorem hasL_at {C : List (List Int × List Int)} {H U N : List Int} {k : Nat} (hk : C[k]? = some (U, N)) (h : has U N H = true) : hasL C H = true := by
  unfold hasL
  rw [List.any_eq_true]
  exact ⟨(U, N), List.mem_of_getElem? hk, h⟩
theorem hasL_take {C : List (List Int × List Int)} {H U N : List Int} {k : Nat} (hk : C[k]? = some (U, N)) (h : has U N H = false) (hp : hasL (C.take k) H = false) : hasL (C.take (k + 1)) H = false := by
  unfold hasL at *
  rw [List.take_add_one, hk, List.any_append, hp]
  simp [h]
end Go.Proofs.Ytjlghkiplapodaa
