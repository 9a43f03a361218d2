import Derived.Test.YtjlghkiplapodaaBuild
import Derived.WalkMore
namespace Go.Proofs.Ytjlghkiplapodaa
open Go Go.RowKit

/-- What the loop of Minus lays, from a bit on. -/
def mGo (bV bM : List Int) : Nat → Nat → List Int → List Int → List (List Int × List Int)
  | 0, _, _, _ => []
  | f + 1, i, V, M => if (V == bV && M == bM) = true then [] else if bt M i = true ∨ bt bM i = false then mGo bV bM f (i + 1) V M else (fixV V M i (!(bt bV i)), fixM M i) :: mGo bV bM f (i + 1) (fixV V M i (bt bV i)) (fixM M i)
/-- What Minus answers. -/
def minusC (V M V' M' : List Int) : List (List Int × List Int) :=
  if meets V M V' M' = true then mGo (meetV V M V' M') (meetM M M') 104 0 (can V M) M else [(can V M, M)]

theorem minusC_no (V M V' M' : List Int) (h : meets V M V' M' = false) : minusC V M V' M' = [(can V M, M)] := by unfold minusC; rw [h]; rfl
theorem minusC_yes (V M V' M' : List Int) (h : meets V M V' M' = true) : minusC V M V' M' = mGo (meetV V M V' M') (meetM M M') 104 0 (can V M) M := by unfold minusC; rw [if_pos h]

/-- A goal at which the walk stands still. -/
def Stopped (p : Prop) : Prop := p
theorem of_stopped {p : Prop} (h : Stopped p) : p := h

theorem mGo_stop (bV bM : List Int) (f i : Nat) (V M : List Int) (h : (V == bV && M == bM) = true) : mGo bV bM f i V M = [] := by
  cases f
  · rfl
  · unfold mGo; rw [if_pos h]
theorem mGo_pass (bV bM : List Int) (f i : Nat) (V M : List Int) (h : (V == bV && M == bM) = false) (h2 : bt M i = true ∨ bt bM i = false) : mGo bV bM (f + 1) i V M = mGo bV bM f (i + 1) V M := by
  rw [mGo, if_neg (by rw [h]; decide), if_pos h2]
theorem mGo_cut (bV bM : List Int) (f i : Nat) (V M : List Int) (h : (V == bV && M == bM) = false) (h2 : bt M i = false) (h3 : bt bM i = true) : mGo bV bM (f + 1) i V M = (fixV V M i (!(bt bV i)), fixM M i) :: mGo bV bM f (i + 1) (fixV V M i (bt bV i)) (fixM M i) := by
  rw [mGo, if_neg (by rw [h]; decide), if_neg (by rw [h2, h3]; simp)]

set_option maxHeartbeats 2000000 in
theorem minus_no (V M V' M' : List Int) (hV : Byt V) (hM : Byt M) (hV' : Byt V') (hM' : Byt M') (h : meets V M V' M' = false) (w : World) :
    Calls Try.prog 46 #[.agg (cv V M), .agg (cv V' M')] w fun e w' => ∃ v, e = .returned v ∧ w'.ownsRow w.heap.size 30 26 v (minusC V M V' M').length (ccells (minusC V M V' M')) ∧ Below w.heap.size w w' := by
  rw [minusC_no V M V' M' h, ccells_one]
  have hVl := hV.1
  have hMl := hM.1
  have hVl' := hV'.1
  have hMl' := hM'.1
  have hCl := (can_byt V M).1
  have C1 : Hid (∀ W, Calls Try.prog 30 #[.agg (cv V M)] W fun e w' => e = .returned (.agg (cv (can V M) M)) ∧ Below W.heap.size W w') := canon_any V M hV hM
  have C2 : Hid (∀ W, Calls Try.prog 27 #[.agg (cv V M), .agg (cv V' M')] W fun e w' => e = .returned (.tuple #[.agg (cv Z Z), .bool false]) ∧ Below W.heap.size W w') := by
    have := meet_any V M V' M' hV hM hV' hM'; rwa [meetR_no _ _ _ _ h] at this
  clear hV hM hV' hM' h
  go_enter Try.func46, Try.ntmps46
  go_wp2_with fail
  go_step3
  go_wp2_with (first
    | (refine wl_loadC rfl _ rfl w.heap.size rfl V M (heap_past _ _ _ _ (heap_new _ _ _ rfl)) hVl hMl ?_))
  refine (C1.out _).mono ?_
  rintro e w1 ⟨rfl, hb1⟩
  have g0 : w1.heap[w.heap.size]? = some (.cells (cv V M) 30 (0, 0)) := by rw [hb1.block _ (by simp; omega)]; exact heap_past _ _ _ _ (heap_new _ _ _ rfl)
  have g1 : w1.heap[w.heap.size + 1]? = some (.cells (cv V' M') 30 (0, 0)) := by rw [hb1.block _ (by simp)]; exact heap_new _ _ _ (by simp)
  have hB1 : Below w.heap.size w w1 := (((Below.refl _ _).alloc (Nat.le_refl _) _).alloc (by simp) _).trans (hb1.mono (by simp; omega))
  have hz1 : w.heap.size + 2 ≤ w1.heap.size := Nat.le_trans (by simp) hb1.size
  clear hb1 C1
  have k0 := heap_past w1 (.cells (cv (can V M) M) 30) _ _ g0
  have k1 := heap_past w1 (.cells (cv (can V M) M) 30) _ _ g1
  have k2 := heap_new w1 (.cells (cv (can V M) M) 30) _ rfl
  have hB2 := hB1.alloc (by omega) (.cells (cv (can V M) M) 30)
  go_wp2_with (first
    | (refine wl_storeC rfl _ _ rfl w1.heap.size (can V M) M rfl rfl _ (heap_new _ _ _ rfl) rfl hCl hMl _ (setRow_new _ _ _ _ _ rfl) ?_)
    | (refine wl_loadC rfl _ rfl w.heap.size rfl V M k0 hVl hMl ?_)
    | (refine wl_loadC rfl _ rfl (w.heap.size + 1) rfl V' M' k1 hVl' hMl' ?_))
  refine (C2.out _).mono ?_
  rintro e w2 ⟨rfl, hb2⟩
  have l2 : w2.heap[w1.heap.size]? = some (.cells (cv (can V M) M) 30 (0, 0)) := by rw [hb2.block _ (by simp)]; exact k2
  have hB3 := hB2.trans (hb2.mono hB2.size)
  have hz2 : w.heap.size + 2 ≤ w2.heap.size := Nat.le_trans (by simp; omega) hb2.size
  clear g0 g1 k0 k1 k2 hB1 hB2 hb2 C2
  have m2 := heap_past w2 (.cells (cv Z Z) 30) _ _ l2
  have hB4 := hB3.alloc (by omega) (.cells (cv Z Z) 30)
  go_wp2_with (first
    | (refine wl_storeC rfl _ _ rfl w2.heap.size Z Z rfl rfl _ (heap_new _ _ _ rfl) rfl Z_byt.1 Z_byt.1 _ (setRow_new _ _ _ _ _ rfl) ?_)
    | (refine wl_loadC rfl _ rfl w1.heap.size rfl (can V M) M m2 hCl hMl ?_)
    | (refine wl_build1 rfl _ rfl (can V M) M hCl hMl rfl ?_))
  try rw [Exit.noGoto_ret]
  go_ret
  refine ⟨_, rfl, ?_, hB4.alloc (by simp; omega) _⟩
  have := World.ownsRow_lit (base := w.heap.size) (e := 30) (size := 26) (w2.alloc (.cells (cv Z Z) 30)) (cv (can V M) M) 1 (by simp; omega) (by unfold maxLen; omega) (by rw [cv_size _ _ hCl hMl])
  rw [World.size_alloc] at this
  exact this

theorem fixV_byt (V M : List Int) (i : Nat) (b : Bool) : Byt (fixV V M i b) := setb_byt _ _ _
theorem fixM_byt (M : List Int) (i : Nat) : Byt (fixM M i) := setb_byt _ _ _

set_option maxHeartbeats 8000000 in
theorem minus_yes (V M V' M' : List Int) (hV : Byt V) (hM : Byt M) (hV' : Byt V') (hM' : Byt M') (h : meets V M V' M' = true) (w : World) :
    Calls Try.prog 46 #[.agg (cv V M), .agg (cv V' M')] w fun e w' => ∃ v, e = .returned v ∧ w'.ownsRow w.heap.size 30 26 v (minusC V M V' M').length (ccells (minusC V M V' M')) ∧ Below w.heap.size w w' := by
  obtain ⟨R, hR⟩ : ∃ R, R = minusC V M V' M' := ⟨_, rfl⟩
  rw [← hR]
  obtain ⟨BV, hBV⟩ : ∃ BV, BV = meetV V M V' M' := ⟨_, rfl⟩
  obtain ⟨BM, hBM⟩ : ∃ BM, BM = meetM M M' := ⟨_, rfl⟩
  have hBVb : Byt BV := by rw [hBV]; exact meetV_byt _ _ _ _
  have hBMb : Byt BM := by rw [hBM]; exact meetM_byt _ _
  have HR0 : Hid (mGo BV BM 104 0 (can V M) M = R) := by
    show _ = _
    rw [hR, minusC_yes _ _ _ _ h, hBV, hBM]
  have hVl := hV.1
  have hMl := hM.1
  have hVl' := hV'.1
  have hMl' := hM'.1
  have hCl := (can_byt V M).1
  have hBVl := hBVb.1
  have hBMl := hBMb.1
  have C1 : Hid (∀ W, Calls Try.prog 30 #[.agg (cv V M)] W fun e w' => e = .returned (.agg (cv (can V M) M)) ∧ Below W.heap.size W w') := canon_any V M hV hM
  have C2 : Hid (∀ W, Calls Try.prog 27 #[.agg (cv V M), .agg (cv V' M')] W fun e w' => e = .returned (.tuple #[.agg (cv BV BM), .bool true]) ∧ Below W.heap.size W w') := by
    have := meet_any V M V' M' hV hM hV' hM'; rwa [meetR_yes _ _ _ _ h, ← hBV, ← hBM] at this
  have HM : Hid (Byt M) := hM
  have CBM : Hid (∀ i : Nat, i < 104 → ∀ W, Calls Try.prog 41 #[.agg (hv BM), .int .i64 (i : Int)] W fun e w' => e = .returned (.bool (bt BM i)) ∧ Below W.heap.size W w') := fun i hi => hbit_nat BM hBMb i hi
  have CBV : Hid (∀ i : Nat, i < 104 → ∀ W, Calls Try.prog 41 #[.agg (hv BV), .int .i64 (i : Int)] W fun e w' => e = .returned (.bool (bt BV i)) ∧ Below W.heap.size W w') := fun i hi => hbit_nat BV hBVb i hi
  clear hV hM hV' hM' h hR hBV hBM hBVb hBMb
  go_enter Try.func46, Try.ntmps46
  go_wp2_with fail
  go_step3
  go_wp2_with (first
    | (refine wl_loadC rfl _ rfl w.heap.size rfl V M (heap_past _ _ _ _ (heap_new _ _ _ rfl)) hVl hMl ?_))
  refine (C1.out _).mono ?_
  rintro e w1 ⟨rfl, hb1⟩
  have g0 : w1.heap[w.heap.size]? = some (.cells (cv V M) 30 (0, 0)) := by rw [hb1.block _ (by simp; omega)]; exact heap_past _ _ _ _ (heap_new _ _ _ rfl)
  have g1 : w1.heap[w.heap.size + 1]? = some (.cells (cv V' M') 30 (0, 0)) := by rw [hb1.block _ (by simp)]; exact heap_new _ _ _ (by simp)
  have hB1 : Below w.heap.size w w1 := (((Below.refl _ _).alloc (Nat.le_refl _) _).alloc (by simp) _).trans (hb1.mono (by simp; omega))
  have hz1 : w.heap.size + 2 ≤ w1.heap.size := Nat.le_trans (by simp) hb1.size
  clear hb1 C1
  have k0 := heap_past w1 (.cells (cv (can V M) M) 30) _ _ g0
  have k1 := heap_past w1 (.cells (cv (can V M) M) 30) _ _ g1
  have k2 := heap_new w1 (.cells (cv (can V M) M) 30) _ rfl
  have hB2 := hB1.alloc (by omega) (.cells (cv (can V M) M) 30)
  go_wp2_with (first
    | (refine wl_storeC rfl _ _ rfl w1.heap.size (can V M) M rfl rfl _ (heap_new _ _ _ rfl) rfl hCl hMl _ (setRow_new _ _ _ _ _ rfl) ?_)
    | (refine wl_loadC rfl _ rfl w.heap.size rfl V M k0 hVl hMl ?_)
    | (refine wl_loadC rfl _ rfl (w.heap.size + 1) rfl V' M' k1 hVl' hMl' ?_))
  refine (C2.out _).mono ?_
  rintro e w2 ⟨rfl, hb2⟩
  have l2 : w2.heap[w1.heap.size]? = some (.cells (cv (can V M) M) 30 (0, 0)) := by rw [hb2.block _ (by simp)]; exact k2
  have hB3 := hB2.trans (hb2.mono hB2.size)
  have hz2 : w1.heap.size + 1 ≤ w2.heap.size := Nat.le_trans (by simp) hb2.size
  clear g0 g1 k0 k1 k2 hB1 hB2 hb2 C2
  have m2 := heap_past w2 (.cells (cv BV BM) 30) _ _ l2
  have m3 := heap_new w2 (.cells (cv BV BM) 30) _ rfl
  have hB4 := hB3.alloc (by omega) (.cells (cv BV BM) 30)
  have hz3 : (w2.alloc (.cells (cv BV BM) 30)).heap.size = w2.heap.size + 1 := by simp
  obtain ⟨W, hW⟩ : ∃ W, W = w2.alloc (.cells (cv BV BM) 30) := ⟨_, rfl⟩
  go_wp2_with (first
    | (refine wl_storeC rfl _ _ rfl w2.heap.size BV BM rfl rfl _ (heap_new _ _ _ rfl) rfl hBVl hBMl _ (setRow_new _ _ _ _ _ rfl) ?_))
  go_step3
  rw [← hW] at m2 m3 hB4 hz3 ⊢
  clear hW l2 hB3
  go_wp2_with fail
  go_loopw [8, 25] (fun v i wr => ∃ k : Nat, k ≤ 104 ∧ i = .int .i64 k ∧ ∃ (U N : List Int) (Cs : List (List Int × List Int)), Byt U ∧ Byt N ∧ Cs ++ mGo BV BM (104 - k) k U N = R ∧ Cs.length ≤ k ∧ wr.ownsRow (w2.heap.size + 1) 30 26 v Cs.length (ccells Cs)
    ∧ wr.heap[w1.heap.size]? = some (.cells (cv U N) 30 (0, 0)) ∧ wr.heap[w2.heap.size]? = some (.cells (cv BV BM) 30 (0, 0)) ∧ Below w.heap.size w wr) (fun _ i _ => 104 - (intOf i).toNat)
  case atStart => exact ⟨0, Nat.zero_le _, rfl, can V M, M, [], can_byt V M, HM.out, HR0.out, Nat.le_refl _, World.ownsRow_nil _ _ _ _, m2, m3, hB4⟩
  case round =>
    clear m2 m3 hB4 hz3 HR0
    obtain ⟨k, hk, rfl, U, N, Cs, hU, hN, hR, hCs, hown, g0, g1, hb⟩ := hrel
    have hUl := hU.1
    have hNl := hN.1
    have hz := (Array.getElem?_eq_some_iff.1 g1).1
    have HR : Hid (Cs ++ mGo BV BM (104 - k) k U N = R) := hR
    have HU : Hid (Byt U) := hU
    have HN : Hid (Byt N) := hN
    have OWN : Hid (wr.ownsRow (w2.heap.size + 1) 30 26 u8 Cs.length (ccells Cs)) := hown
    have eC : ∀ w, (Op.equalIn 10000 30 (.agg (cv U N)) (.agg (cv BV BM))).run Try.prog w = .ok (U == BV && N == BM) w := eqC U N BV BM hUl hNl hBVl hBMl
    have eg : ∀ op x y (xs ys : Array Value) w, (eqGuard op 30 x y (.agg xs) (.agg ys)).run Try.prog w = .ok () w := egC
    clear hU hN hR hown
    by_cases hlt : k < 104
    · by_cases hst : (U == BV && N == BM) = true
      · rw [hst] at eC
        have HST : Hid ((U == BV && N == BM) = true) := hst
        clear hst
        go_wp2_with (first
          | (refine wl_loadC rfl _ rfl w1.heap.size rfl U N g0 hUl hNl ?_)
          | (refine wl_loadC rfl _ rfl w2.heap.size rfl BV BM g1 hBVl hBMl ?_))
        try rw [Exit.noGoto_ret]
        go_ret
        have hr := HR.out
        rw [mGo_stop _ _ _ _ _ _ HST.out, List.append_nil] at hr
        subst hr
        exact ⟨_, rfl, own_base OWN.out (by omega), hb⟩
      · have hst' : (U == BV && N == BM) = false := by simpa using hst
        rw [hst'] at eC
        have HST : Hid ((U == BV && N == BM) = false) := hst'
        have CN : Hid (∀ W, Calls Try.prog 41 #[.agg (hv N), .int .i64 (k : Int)] W fun e w' => e = .returned (.bool (bt N k)) ∧ Below W.heap.size W w') := hbit_nat N HN.out k hlt
        clear hst hst'
        go_wp2_with (first
          | (refine wl_loadC rfl _ rfl w1.heap.size rfl U N g0 hUl hNl ?_)
          | (refine wl_loadC rfl _ rfl w2.heap.size rfl BV BM g1 hBVl hBMl ?_)
          | (refine wl_loadM rfl _ rfl w1.heap.size rfl U N g0 hUl hNl ?_))
        refine (CN.out _).mono ?_
        rintro e w3 ⟨rfl, hb3⟩
        have k0 : w3.heap[w1.heap.size]? = some (.cells (cv U N) 30 (0, 0)) := by rw [hb3.block _ (by omega)]; exact g0
        have k1 : w3.heap[w2.heap.size]? = some (.cells (cv BV BM) 30 (0, 0)) := by rw [hb3.block _ (by omega)]; exact g1
        have hB5 := hb.trans (hb3.mono hb.size)
        have hz5 := Nat.lt_of_lt_of_le hz hb3.size
        have OWN3 : Hid (w3.ownsRow (w2.heap.size + 1) 30 26 u8 Cs.length (ccells Cs)) := own_below OWN.out hb3
        clear g0 g1 hb hb3 CN OWN hz eC eg
        by_cases hn : bt N k = true
        · rw [hn]
          have HNB : Hid (bt N k = true) := hn
          clear hn
          go_wp2_with fail
          go_roundw
          case rel =>
            refine ⟨k + 1, by omega, by go_num, U, N, Cs, HU.out, HN.out, ?_, by omega, OWN3.out, k0, k1, hB5⟩
            have := HR.out
            rwa [show 104 - k = (104 - (k + 1)) + 1 by omega, mGo_pass _ _ _ _ _ _ HST.out (.inl HNB.out)] at this
          case measure => simp [intOf]; omega
        · have hn' : bt N k = false := by simpa using hn
          rw [hn']
          have HNB : Hid (bt N k = false) := hn'
          clear hn hn'
          go_wp2_with (first
            | (refine wl_loadM rfl _ rfl w2.heap.size rfl BV BM k1 hBVl hBMl ?_))
          refine (CBM.out k hlt _).mono ?_
          rintro e w4 ⟨rfl, hb4⟩
          have l0 : w4.heap[w1.heap.size]? = some (.cells (cv U N) 30 (0, 0)) := by rw [hb4.block _ (by omega)]; exact k0
          have l1 : w4.heap[w2.heap.size]? = some (.cells (cv BV BM) 30 (0, 0)) := by rw [hb4.block _ (by omega)]; exact k1
          have hB6 := hB5.trans (hb4.mono hB5.size)
          have hz6 := Nat.lt_of_lt_of_le hz5 hb4.size
          have OWN4 : Hid (w4.ownsRow (w2.heap.size + 1) 30 26 u8 Cs.length (ccells Cs)) := own_below OWN3.out hb4
          clear k0 k1 hB5 hb4 OWN3 hz5
          by_cases hm : bt BM k = false
          · rw [hm]
            have HMB : Hid (bt BM k = false) := hm
            clear hm
            go_wp2_with fail
            go_roundw
            case rel =>
              refine ⟨k + 1, by omega, by go_num, U, N, Cs, HU.out, HN.out, ?_, by omega, OWN4.out, l0, l1, hB6⟩
              have := HR.out
              rwa [show 104 - k = (104 - (k + 1)) + 1 by omega, mGo_pass _ _ _ _ _ _ HST.out (.inr HMB.out)] at this
            case measure => simp [intOf]; omega
          · have hm' : bt BM k = true := by simpa using hm
            rw [hm']
            have HMB : Hid (bt BM k = true) := hm'
            clear hm hm'
            have CF1 : Hid (∀ W, Calls Try.prog 42 #[.agg (cv U N), .int .i64 (k : Int), .bool (!(bt BV k))] W fun e w' => e = .returned (.tuple #[.agg (cv (fixV U N k (!(bt BV k))) (fixM N k)), .int .i64 0]) ∧ Below W.heap.size W w') := fix_in U N HU.out HN.out k _ hlt
            have CF2 : Hid (∀ W, Calls Try.prog 42 #[.agg (cv U N), .int .i64 (k : Int), .bool (bt BV k)] W fun e w' => e = .returned (.tuple #[.agg (cv (fixV U N k (bt BV k)) (fixM N k)), .int .i64 0]) ∧ Below W.heap.size W w') := fix_in U N HU.out HN.out k _ hlt
            have hF1 := (fixV_byt U N k (!(bt BV k))).1
            have hF2 := (fixV_byt U N k (bt BV k)).1
            have hF3 := (fixM_byt N k).1
            go_wp2_with (first
              | (refine wl_loadV rfl _ rfl w2.heap.size rfl BV BM l1 hBVl ?_))
            refine (CBV.out k hlt _).mono ?_
            rintro e w5 ⟨rfl, hb5⟩
            have m0 : w5.heap[w1.heap.size]? = some (.cells (cv U N) 30 (0, 0)) := by rw [hb5.block _ (by omega)]; exact l0
            have m1 : w5.heap[w2.heap.size]? = some (.cells (cv BV BM) 30 (0, 0)) := by rw [hb5.block _ (by omega)]; exact l1
            have hB7 := hB6.trans (hb5.mono hB6.size)
            have hz7 := Nat.lt_of_lt_of_le hz6 hb5.size
            have OWN5 : Hid (w5.ownsRow (w2.heap.size + 1) 30 26 u8 Cs.length (ccells Cs)) := own_below OWN4.out hb5
            clear l0 l1 hB6 hb5 OWN4 hz6
            go_wp2_with (first
              | (refine wl_loadC rfl _ rfl w1.heap.size rfl U N m0 hUl hNl ?_))
            refine (CF1.out _).mono ?_
            rintro e w6 ⟨rfl, hb6⟩
            have n0 : w6.heap[w1.heap.size]? = some (.cells (cv U N) 30 (0, 0)) := by rw [hb6.block _ (by omega)]; exact m0
            have n1 : w6.heap[w2.heap.size]? = some (.cells (cv BV BM) 30 (0, 0)) := by rw [hb6.block _ (by omega)]; exact m1
            have hB8 := hB7.trans (hb6.mono hB7.size)
            have hz8 := Nat.lt_of_lt_of_le hz7 hb6.size
            have hown6 := own_below OWN5.out hb6
            clear m0 m1 hB7 hb6 OWN5 hz7 CF1
            obtain ⟨i0, hi, hz0', hz1', hz2'⟩ := infoC
            have hB2 : ∀ g, u8.ownBlock = some g → w2.heap.size + 1 ≤ g := fun g hg => (hown6.lt _ hg).1
            have hcl : (cv (fixV U N k (!(bt BV k))) (fixM N k)).toList.length = 1 * 26 := by rw [Array.length_toList, cv_size _ _ hF1 hF3]
            have hcn : ∀ j u, (cv (fixV U N k (!(bt BV k))) (fixM N k)).toList[j]? = some u → ((w6.alloc (.cells (cv (fixV U N k (!(bt BV k))) (fixM N k)) 30)).alloc (.cells (cv (fixV U N k (!(bt BV k))) (fixM N k)) 30)).cell? ((⟨w6.heap.size + 1, 0, none⟩ : Addr).add j) = some u := by
              have := cells_new (w6.alloc (.cells (cv (fixV U N k (!(bt BV k))) (fixM N k)) 30)) (cv (fixV U N k (!(bt BV k))) (fixM N k)) 30
              rwa [World.size_alloc] at this
            have hco : ∀ u ∈ (cv (fixV U N k (!(bt BV k))) (fixM N k)).toList, u.oneCell' = true := fun u hu => (Array.all_eq_true_iff_forall_mem.1 (cv_one (fixV U N k (!(bt BV k))) (fixM N k))) u (by simpa using hu)
            go_wp2_with (first
              | (refine wl_storeC rfl _ _ rfl w6.heap.size (fixV U N k (!(bt BV k))) (fixM N k) rfl rfl _ (heap_new _ _ _ rfl) rfl hF1 hF3 _ (setRow_new _ _ _ _ _ rfl) ?_)
              | (refine wl_loadC rfl _ rfl w6.heap.size rfl (fixV U N k (!(bt BV k))) (fixM N k) (heap_new _ _ _ rfl) hF1 hF3 ?_)
              | (refine wl_build1 rfl _ rfl (fixV U N k (!(bt BV k))) (fixM N k) hF1 hF3 rfl ?_)
              | (at_builtin; refine of_stopped ?_))
            unfold Stopped
            refine wpList_append_own _ rfl _ _ 22 rfl (w2.heap.size + 1) 30 i0 (.agg zeroC) 26 26 Try.underlying22 hi hz0' hz1' hz2' rfl (by decide) _ _ _ rfl ((hown6.alloc _).alloc _) ⟨w6.heap.size + 1, 0, none⟩ 1 1 (cv (fixV U N k (!(bt BV k))) (fixM N k)).toList rfl hcl hcn hco (by unfold maxLen; omega) (by omega) (by simp; omega) ?_
            intro v' w7 hown' hgrow7 hnil7
            have p0 : w7.heap[w1.heap.size]? = some (.cells (cv U N) 30 (0, 0)) := by
              rw [hgrow7.block _ (by simp; omega) (fun h => by have := hB2 _ h.symm; omega)]; exact heap_past _ _ _ _ (heap_past _ _ _ _ n0)
            have p1 : w7.heap[w2.heap.size]? = some (.cells (cv BV BM) 30 (0, 0)) := by
              rw [hgrow7.block _ (by simp; omega) (fun h => by have := hB2 _ h.symm; omega)]; exact heap_past _ _ _ _ (heap_past _ _ _ _ n1)
            have hB9 : Below w.heap.size w w7 := ((hB8.alloc (by omega) _).alloc (by simp; omega) _).grown hgrow7 (by simp; omega) (fun g hg => by have := hB2 g hg; omega)
            have hz9 : w2.heap.size < w7.heap.size := Nat.lt_of_lt_of_le (by simp; omega) hgrow7.size
            have OWN7 : Hid (w7.ownsRow (w2.heap.size + 1) 30 26 v' (Cs ++ [(fixV U N k (!(bt BV k)), fixM N k)]).length (ccells (Cs ++ [(fixV U N k (!(bt BV k)), fixM N k)]))) := by
              show World.ownsRow _ _ _ _ _ _ _
              rw [ccells_append, ccells_one, List.length_append]; exact hown'
            clear hown' hgrow7 hnil7 hown6 hB2 hcl hcn hco n0 n1 hB8 hi hz0' hz1' hz2' hz8
            simp only [Act.put, List.setIfInBounds_toArray, List.set_cons_succ, List.set_cons_zero]
            go_wp2_with (first
              | (refine wl_loadC rfl _ rfl w1.heap.size rfl U N p0 hUl hNl ?_))
            refine (CF2.out _).mono ?_
            rintro e w8 ⟨rfl, hb8⟩
            have q0 : w8.heap[w1.heap.size]? = some (.cells (cv U N) 30 (0, 0)) := by rw [hb8.block _ (by omega)]; exact p0
            have q1 : w8.heap[w2.heap.size]? = some (.cells (cv BV BM) 30 (0, 0)) := by rw [hb8.block _ (by omega)]; exact p1
            have hB10 := hB9.trans (hb8.mono hB9.size)
            have OWN8 : Hid (w8.ownsRow (w2.heap.size + 1) 30 26 v' (Cs ++ [(fixV U N k (!(bt BV k)), fixM N k)]).length (ccells (Cs ++ [(fixV U N k (!(bt BV k)), fixM N k)]))) := own_below OWN7.out hb8
            clear p0 p1 hB9 hb8 OWN7 hz9 CF2
            go_wp2_with (first
              | (refine wl_storeC rfl _ _ rfl w1.heap.size (fixV U N k (bt BV k)) (fixM N k) rfl rfl _ q0 (cv_size _ _ hUl hNl) hF2 hF3 _ rfl ?_))
            go_roundw
            case rel =>
              refine ⟨k + 1, by omega, by go_num, fixV U N k (bt BV k), fixM N k, Cs ++ [(fixV U N k (!(bt BV k)), fixM N k)], fixV_byt _ _ _ _, fixM_byt _ _, ?_, by simp; omega, own_setRow OWN8.out _ (by omega) _, setRow_heap _ _ _ _ _ _ q0, (setRow_other _ _ _ _ (by omega)).trans q1, below_setRow hB10 (by omega) _⟩
              have := HR.out
              rw [show 104 - k = (104 - (k + 1)) + 1 by omega, mGo_cut _ _ _ _ _ _ HST.out HNB.out HMB.out] at this
              rw [List.append_assoc]
              exact this
            case measure => simp [intOf]; omega
    · obtain rfl : k = 104 := by omega
      go_wp2_with fail
      try rw [Exit.noGoto_ret]
      go_ret
      have hr := HR.out
      rw [show 104 - 104 = 0 from rfl, mGo, List.append_nil] at hr
      subst hr
      exact ⟨_, rfl, own_base OWN.out (by omega), hb⟩
theorem minus_any (V M V' M' : List Int) (hV : Byt V) (hM : Byt M) (hV' : Byt V') (hM' : Byt M') (w : World) :
    Calls Try.prog 46 #[.agg (cv V M), .agg (cv V' M')] w fun e w' => ∃ v, e = .returned v ∧ w'.ownsRow w.heap.size 30 26 v (minusC V M V' M').length (ccells (minusC V M V' M')) ∧ Below w.heap.size w w' := by
  cases h : meets V M V' M'
  · exact minus_no V M V' M' hV hM hV' hM' h w
  · exact minus_yes V M V' M' hV hM hV' hM' h w
end Go.Proofs.Ytjlghkiplapodaa
