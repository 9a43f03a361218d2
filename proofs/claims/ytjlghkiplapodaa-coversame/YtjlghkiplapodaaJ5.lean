import Derived.Test.YtjlghkiplapodaaJ4
import Derived.WalkMore
import Derived.Test.YtjlghkiplapodaaRows
import Derived.ProofKit
import Derived.OpenShut
import Derived.Carry
namespace Go.Proofs.Ytjlghkiplapodaa
open Go Go.RowKit

/-- What the loop of Minus lays, from a bit on. -/
def mGo (bV bM : List Int) : Nat → Nat → List Int → List Int → List (List Int × List Int)
  | 0, _, _, _ => []
  | f + 1, i, V, M => if (V == bV && M == bM) = true then [] else if bt M i = true ∨ bt bM i = false then mGo bV bM f (i + 1) V M else (fixV V M i (!(bt bV i)), fixM M i) :: mGo bV bM f (i + 1) (fixV V M i (bt bV i)) (fixM M i)
/-- What Minus answers. -/
def minusC (V M V' M' : List Int) : List (List Int × List Int) :=
  if meets V M V' M' = true then mGo (meetV V M V' M') (meetM M M') 104 0 (can V M) M else [(can V M, M)]

theorem minusC_no (V M V' M' : List Int) (h : meets V M V' M' = false) : minusC V M V' M' = [(can V M, M)] := by unfold minusC; rw [h]; rfl
theorem minusC_yes (V M V' M' : List Int) (h : meets V M V' M' = true) : minusC V M V' M' = mGo (meetV V M V' M') (meetM M M') 104 0 (can V M) M := by unfold minusC; rw [if_pos h]

/-- A goal at which the walk stands still. -/
def Stopped (p : Prop) : Prop := p
theorem of_stopped {p : Prop} (h : Stopped p) : p := h

theorem mGo_stop (bV bM : List Int) (f i : Nat) (V M : List Int) (h : (V == bV && M == bM) = true) : mGo bV bM f i V M = [] := by
  cases f
  · rfl
  · unfold mGo; rw [if_pos h]
theorem mGo_pass (bV bM : List Int) (f i : Nat) (V M : List Int) (h : (V == bV && M == bM) = false) (h2 : bt M i = true ∨ bt bM i = false) : mGo bV bM (f + 1) i V M = mGo bV bM f (i + 1) V M := by
  rw [mGo, if_neg (by rw [h]; decide), if_pos h2]
theorem mGo_cut (bV bM : List Int) (f i : Nat) (V M : List Int) (h : (V == bV && M == bM) = false) (h2 : bt M i = false) (h3 : bt bM i = true) : mGo bV bM (f + 1) i V M = (fixV V M i (!(bt bV i)), fixM M i) :: mGo bV bM f (i + 1) (fixV V M i (bt bV i)) (fixM M i) := by
  rw [mGo, if_neg (by rw [h]; decide), if_neg (by rw [h2, h3]; simp)]

set_option maxHeartbeats 2000000 in
theorem minus_no (V M V' M' : List Int) (hV : Byt V) (hM : Byt M) (hV' : Byt V') (hM' : Byt M') (h : meets V M V' M' = false) (w : World) :
    Calls Try.prog 46 #[.agg (cv V M), .agg (cv V' M')] w fun e w' => ∃ v, e = .returned v ∧ w'.ownsRow w.heap.size 30 26 v (minusC V M V' M').length (ccells (minusC V M V' M')) ∧ Below w.heap.size w w' := by
  rw [minusC_no V M V' M' h, ccells_one]
  have hVl := hV.1
  have hMl := hM.1
  have hVl' := hV'.1
  have hMl' := hM'.1
  have hCl := (can_byt V M).1
  have C1 : Hid (∀ W, Calls Try.prog 30 #[.agg (cv V M)] W fun e w' => e = .returned (.agg (cv (can V M) M)) ∧ Below W.heap.size W w') := canon_any V M hV hM
  have C2 : Hid (∀ W, Calls Try.prog 27 #[.agg (cv V M), .agg (cv V' M')] W fun e w' => e = .returned (.tuple #[.agg (cv Z Z), .bool false]) ∧ Below W.heap.size W w') := by
    have := meet_any V M V' M' hV hM hV' hM'; rwa [meetR_no _ _ _ _ h] at this
  clear hV hM hV' hM' h
  go_enter Try.func46, Try.ntmps46
  go_wp2_with fail
  go_step3
  go_wp2_with (first
    | (refine wl_loadC rfl _ rfl w.heap.size rfl V M (heap_past _ _ _ _ (heap_new _ _ _ rfl)) hVl hMl ?_))
  refine (C1.out _).mono ?_
  rintro e w1 ⟨rfl, hb1⟩
  have g0 : w1.heap[w.heap.size]? = some (.cells (cv V M) 30 (0, 0)) := by rw [hb1.block _ (by simp; omega)]; exact heap_past _ _ _ _ (heap_new _ _ _ rfl)
  have g1 : w1.heap[w.heap.size + 1]? = some (.cells (cv V' M') 30 (0, 0)) := by rw [hb1.block _ (by simp)]; exact heap_new _ _ _ (by simp)
  have hB1 : Below w.heap.size w w1 := (((Below.refl _ _).alloc (Nat.le_refl _) _).alloc (by simp) _).trans (hb1.mono (by simp; omega))
  have hz1 : w.heap.size + 2 ≤ w1.heap.size := Nat.le_trans (by simp) hb1.size
  clear hb1 C1
  have k0 := heap_past w1 (.cells (cv (can V M) M) 30) _ _ g0
  have k1 := heap_past w1 (.cells (cv (can V M) M) 30) _ _ g1
  have k2 := heap_new w1 (.cells (cv (can V M) M) 30) _ rfl
  have hB2 := hB1.alloc (by omega) (.cells (cv (can V M) M) 30)
  go_wp2_with (first
    | (refine wl_storeC rfl _ _ rfl w1.heap.size (can V M) M rfl rfl _ (heap_new _ _ _ rfl) rfl hCl hMl _ (setRow_new _ _ _ _ _ rfl) ?_)
    | (refine wl_loadC rfl _ rfl w.heap.size rfl V M k0 hVl hMl ?_)
    | (refine wl_loadC rfl _ rfl (w.heap.size + 1) rfl V' M' k1 hVl' hMl' ?_))
  refine (C2.out _).mono ?_
  rintro e w2 ⟨rfl, hb2⟩
  have l2 : w2.heap[w1.heap.size]? = some (.cells (cv (can V M) M) 30 (0, 0)) := by rw [hb2.block _ (by simp)]; exact k2
  have hB3 := hB2.trans (hb2.mono hB2.size)
  have hz2 : w.heap.size + 2 ≤ w2.heap.size := Nat.le_trans (by simp; omega) hb2.size
  clear g0 g1 k0 k1 k2 hB1 hB2 hb2 C2
  have m2 := heap_past w2 (.cells (cv Z Z) 30) _ _ l2
  have hB4 := hB3.alloc (by omega) (.cells (cv Z Z) 30)
  go_wp2_with (first
    | (refine wl_storeC rfl _ _ rfl w2.heap.size Z Z rfl rfl _ (heap_new _ _ _ rfl) rfl Z_byt.1 Z_byt.1 _ (setRow_new _ _ _ _ _ rfl) ?_)
    | (refine wl_loadC rfl _ rfl w1.heap.size rfl (can V M) M m2 hCl hMl ?_)
    | (refine wl_build1 rfl _ rfl (can V M) M hCl hMl rfl ?_))
  try rw [Exit.noGoto_ret]
  go_ret
  refine ⟨_, rfl, ?_, hB4.alloc (by simp; omega) _⟩
  have := World.ownsRow_lit (base := w.heap.size) (e := 30) (size := 26) (w2.alloc (.cells (cv Z Z) 30)) (cv (can V M) M) 1 (by simp; omega) (by unfold maxLen; omega) (by rw [cv_size _ _ hCl hMl])
  rw [World.size_alloc] at this
  exact this

theorem fixV_byt (V M : List Int) (i : Nat) (b : Bool) : Byt (fixV V M i b) := setb_byt _ _ _
theorem fixM_byt (M : List Int) (i : Nat) : Byt (fixM M i) := setb_byt _ _ _

set_option maxHeartbeats 8000000 in
theorem minus_yes (V M V' M' : List Int) (hV : Byt V) (hM : Byt M) (hV' : Byt V') (hM' : Byt M') (h : meets V M V' M' = true) (w : World) :
    Calls Try.prog 46 #[.agg (cv V M), .agg (cv V' M')] w fun e w' => ∃ v, e = .returned v ∧ w'.ownsRow w.heap.size 30 26 v (minusC V M V' M').length (ccells (minusC V M V' M')) ∧ Below w.heap.size w w' := by
  obtain ⟨R, hR⟩ : ∃ R, R = minusC V M V' M' := ⟨_, rfl⟩
  rw [← hR]
  obtain ⟨BV, hBV⟩ : ∃ BV, BV = meetV V M V' M' := ⟨_, rfl⟩
  obtain ⟨BM, hBM⟩ : ∃ BM, BM = meetM M M' := ⟨_, rfl⟩
  have hBVb : Byt BV := by rw [hBV]; exact meetV_byt _ _ _ _
  have hBMb : Byt BM := by rw [hBM]; exact meetM_byt _ _
  have HR0 : Hid (mGo BV BM 104 0 (can V M) M = R) := by
    show _ = _
    rw [hR, minusC_yes _ _ _ _ h, hBV, hBM]
  have hVl := hV.1
  have hMl := hM.1
  have hVl' := hV'.1
  have hMl' := hM'.1
  have hCl := (can_byt V M).1
  have hBVl := hBVb.1
  have hBMl := hBMb.1
  have C1 : Hid (∀ W, Calls Try.prog 30 #[.agg (cv V M)] W fun e w' => e = .returned (.agg (cv (can V M) M)) ∧ Below W.heap.size W w') := canon_any V M hV hM
  have C2 : Hid (∀ W, Calls Try.prog 27 #[.agg (cv V M), .agg (cv V' M')] W fun e w' => e = .returned (.tuple #[.agg (cv BV BM), .bool true]) ∧ Below W.heap.size W w') := by
    have := meet_any V M V' M' hV hM hV' hM'; rwa [meetR_yes _ _ _ _ h, ← hBV, ← hBM] at this
  have HM : Hid (Byt M) := hM
  have CBM : Hid (∀ i : Nat, i < 104 → ∀ W, Calls Try.prog 41 #[.agg (hv BM), .int .i64 (i : Int)] W fun e w' => e = .returned (.bool (bt BM i)) ∧ Below W.heap.size W w') := fun i hi => hbit_nat BM hBMb i hi
  have CBV : Hid (∀ i : Nat, i < 104 → ∀ W, Calls Try.prog 41 #[.agg (hv BV), .int .i64 (i : Int)] W fun e w' => e = .returned (.bool (bt BV i)) ∧ Below W.heap.size W w') := fun i hi => hbit_nat BV hBVb i hi
  clear hV hM hV' hM' h hR hBV hBM hBVb hBMb
  go_enter Try.func46, Try.ntmps46
  go_wp2_with fail
  go_step3
  go_wp2_with (first
    | (refine wl_loadC rfl _ rfl w.heap.size rfl V M (heap_past _ _ _ _ (heap_new _ _ _ rfl)) hVl hMl ?_))
  refine (C1.out _).mono ?_
  rintro e w1 ⟨rfl, hb1⟩
  have g0 : w1.heap[w.heap.size]? = some (.cells (cv V M) 30 (0, 0)) := by rw [hb1.block _ (by simp; omega)]; exact heap_past _ _ _ _ (heap_new _ _ _ rfl)
  have g1 : w1.heap[w.heap.size + 1]? = some (.cells (cv V' M') 30 (0, 0)) := by rw [hb1.block _ (by simp)]; exact heap_new _ _ _ (by simp)
  have hB1 : Below w.heap.size w w1 := (((Below.refl _ _).alloc (Nat.le_refl _) _).alloc (by simp) _).trans (hb1.mono (by simp; omega))
  have hz1 : w.heap.size + 2 ≤ w1.heap.size := Nat.le_trans (by simp) hb1.size
  clear hb1 C1
  have k0 := heap_past w1 (.cells (cv (can V M) M) 30) _ _ g0
  have k1 := heap_past w1 (.cells (cv (can V M) M) 30) _ _ g1
  have k2 := heap_new w1 (.cells (cv (can V M) M) 30) _ rfl
  have hB2 := hB1.alloc (by omega) (.cells (cv (can V M) M) 30)
  go_wp2_with (first
    | (refine wl_storeC rfl _ _ rfl w1.heap.size (can V M) M rfl rfl _ (heap_new _ _ _ rfl) rfl hCl hMl _ (setRow_new _ _ _ _ _ rfl) ?_)
    | (refine wl_loadC rfl _ rfl w.heap.size rfl V M k0 hVl hMl ?_)
    | (refine wl_loadC rfl _ rfl (w.heap.size + 1) rfl V' M' k1 hVl' hMl' ?_))
  refine (C2.out _).mono ?_
  rintro e w2 ⟨rfl, hb2⟩
  have l2 : w2.heap[w1.heap.size]? = some (.cells (cv (can V M) M) 30 (0, 0)) := by rw [hb2.block _ (by simp)]; exact k2
  have hB3 := hB2.trans (hb2.mono hB2.size)
  have hz2 : w1.heap.size + 1 ≤ w2.heap.size := Nat.le_trans (by simp) hb2.size
  clear g0 g1 k0 k1 k2 hB1 hB2 hb2 C2
  have m2 := heap_past w2 (.cells (cv BV BM) 30) _ _ l2
  have m3 := heap_new w2 (.cells (cv BV BM) 30) _ rfl
  have hB4 := hB3.alloc (by omega) (.cells (cv BV BM) 30)
  have hz3 : (w2.alloc (.cells (cv BV BM) 30)).heap.size = w2.heap.size + 1 := by simp
  obtain ⟨W, hW⟩ : ∃ W, W = w2.alloc (.cells (cv BV BM) 30) := ⟨_, rfl⟩
  go_wp2_with (first
    | (refine wl_storeC rfl _ _ rfl w2.heap.size BV BM rfl rfl _ (heap_new _ _ _ rfl) rfl hBVl hBMl _ (setRow_new _ _ _ _ _ rfl) ?_))
  go_step3
  rw [← hW] at m2 m3 hB4 hz3 ⊢
  clear hW l2 hB3
  go_wp2_with fail
  go_loopw [8, 25] (fun v i wr => ∃ k : Nat, k ≤ 104 ∧ i = .int .i64 k ∧ ∃ (U N : List Int) (Cs : List (List Int × List Int)), Byt U ∧ Byt N ∧ Cs ++ mGo BV BM (104 - k) k U N = R ∧ Cs.length ≤ k ∧ wr.ownsRow (w2.heap.size + 1) 30 26 v Cs.length (ccells Cs)
    ∧ wr.heap[w1.heap.size]? = some (.cells (cv U N) 30 (0, 0)) ∧ wr.heap[w2.heap.size]? = some (.cells (cv BV BM) 30 (0, 0)) ∧ Below w.heap.size w wr) (fun _ i _ => 104 - (intOf i).toNat)
  case atStart => exact ⟨0, Nat.zero_le _, rfl, can V M, M, [], can_byt V M, HM.out, HR0.out, Nat.le_refl _, World.ownsRow_nil _ _ _ _, m2, m3, hB4⟩
  case round =>
    clear m2 m3 hB4 hz3 HR0
    obtain ⟨k, hk, rfl, U, N, Cs, hU, hN, hR, hCs, hown, g0, g1, hb⟩ := hrel
    have hUl := hU.1
    have hNl := hN.1
    have hz := (Array.getElem?_eq_some_iff.1 g1).1
    have HR : Hid (Cs ++ mGo BV BM (104 - k) k U N = R) := hR
    have HU : Hid (Byt U) := hU
    have HN : Hid (Byt N) := hN
    have OWN : Hid (wr.ownsRow (w2.heap.size + 1) 30 26 u8 Cs.length (ccells Cs)) := hown
    have eC : ∀ w, (Op.equalIn 10000 30 (.agg (cv U N)) (.agg (cv BV BM))).run Try.prog w = .ok (U == BV && N == BM) w := eqC U N BV BM hUl hNl hBVl hBMl
    have eg : ∀ op x y (xs ys : Array Value) w, (eqGuard op 30 x y (.agg xs) (.agg ys)).run Try.prog w = .ok () w := egC
    clear hU hN hR hown
    by_cases hlt : k < 104
    · by_cases hst : (U == BV && N == BM) = true
      · rw [hst] at eC
        have HST : Hid ((U == BV && N == BM) = true) := hst
        clear hst
        go_wp2_with (first
          | (refine wl_loadC rfl _ rfl w1.heap.size rfl U N g0 hUl hNl ?_)
          | (refine wl_loadC rfl _ rfl w2.heap.size rfl BV BM g1 hBVl hBMl ?_))
        try rw [Exit.noGoto_ret]
        go_ret
        have hr := HR.out
        rw [mGo_stop _ _ _ _ _ _ HST.out, List.append_nil] at hr
        subst hr
        exact ⟨_, rfl, own_base OWN.out (by omega), hb⟩
      · have hst' : (U == BV && N == BM) = false := by simpa using hst
        rw [hst'] at eC
        have HST : Hid ((U == BV && N == BM) = false) := hst'
        have CN : Hid (∀ W, Calls Try.prog 41 #[.agg (hv N), .int .i64 (k : Int)] W fun e w' => e = .returned (.bool (bt N k)) ∧ Below W.heap.size W w') := hbit_nat N HN.out k hlt
        clear hst hst'
        go_wp2_with (first
          | (refine wl_loadC rfl _ rfl w1.heap.size rfl U N g0 hUl hNl ?_)
          | (refine wl_loadC rfl _ rfl w2.heap.size rfl BV BM g1 hBVl hBMl ?_)
          | (refine wl_loadM rfl _ rfl w1.heap.size rfl U N g0 hUl hNl ?_))
        refine (CN.out _).mono ?_
        rintro e w3 ⟨rfl, hb3⟩
        have k0 : w3.heap[w1.heap.size]? = some (.cells (cv U N) 30 (0, 0)) := by rw [hb3.block _ (by omega)]; exact g0
        have k1 : w3.heap[w2.heap.size]? = some (.cells (cv BV BM) 30 (0, 0)) := by rw [hb3.block _ (by omega)]; exact g1
        have hB5 := hb.trans (hb3.mono hb.size)
        have hz5 := Nat.lt_of_lt_of_le hz hb3.size
        have OWN3 : Hid (w3.ownsRow (w2.heap.size + 1) 30 26 u8 Cs.length (ccells Cs)) := own_below OWN.out hb3
        clear g0 g1 hb hb3 CN OWN hz eC eg
        by_cases hn : bt N k = true
        · rw [hn]
          have HNB : Hid (bt N k = true) := hn
          clear hn
          go_wp2_with fail
          go_roundw
          case rel =>
            refine ⟨k + 1, by omega, by go_num, U, N, Cs, HU.out, HN.out, ?_, by omega, OWN3.out, k0, k1, hB5⟩
            have := HR.out
            rwa [show 104 - k = (104 - (k + 1)) + 1 by omega, mGo_pass _ _ _ _ _ _ HST.out (.inl HNB.out)] at this
          case measure => simp [intOf]; omega
        · have hn' : bt N k = false := by simpa using hn
          rw [hn']
          have HNB : Hid (bt N k = false) := hn'
          clear hn hn'
          go_wp2_with (first
            | (refine wl_loadM rfl _ rfl w2.heap.size rfl BV BM k1 hBVl hBMl ?_))
          refine (CBM.out k hlt _).mono ?_
          rintro e w4 ⟨rfl, hb4⟩
          have l0 : w4.heap[w1.heap.size]? = some (.cells (cv U N) 30 (0, 0)) := by rw [hb4.block _ (by omega)]; exact k0
          have l1 : w4.heap[w2.heap.size]? = some (.cells (cv BV BM) 30 (0, 0)) := by rw [hb4.block _ (by omega)]; exact k1
          have hB6 := hB5.trans (hb4.mono hB5.size)
          have hz6 := Nat.lt_of_lt_of_le hz5 hb4.size
          have OWN4 : Hid (w4.ownsRow (w2.heap.size + 1) 30 26 u8 Cs.length (ccells Cs)) := own_below OWN3.out hb4
          clear k0 k1 hB5 hb4 OWN3 hz5
          by_cases hm : bt BM k = false
          · rw [hm]
            have HMB : Hid (bt BM k = false) := hm
            clear hm
            go_wp2_with fail
            go_roundw
            case rel =>
              refine ⟨k + 1, by omega, by go_num, U, N, Cs, HU.out, HN.out, ?_, by omega, OWN4.out, l0, l1, hB6⟩
              have := HR.out
              rwa [show 104 - k = (104 - (k + 1)) + 1 by omega, mGo_pass _ _ _ _ _ _ HST.out (.inr HMB.out)] at this
            case measure => simp [intOf]; omega
          · have hm' : bt BM k = true := by simpa using hm
            rw [hm']
            have HMB : Hid (bt BM k = true) := hm'
            clear hm hm'
            have CF1 : Hid (∀ W, Calls Try.prog 42 #[.agg (cv U N), .int .i64 (k : Int), .bool (!(bt BV k))] W fun e w' => e = .returned (.tuple #[.agg (cv (fixV U N k (!(bt BV k))) (fixM N k)), .int .i64 0]) ∧ Below W.heap.size W w') := fix_in U N HU.out HN.out k _ hlt
            have CF2 : Hid (∀ W, Calls Try.prog 42 #[.agg (cv U N), .int .i64 (k : Int), .bool (bt BV k)] W fun e w' => e = .returned (.tuple #[.agg (cv (fixV U N k (bt BV k)) (fixM N k)), .int .i64 0]) ∧ Below W.heap.size W w') := fix_in U N HU.out HN.out k _ hlt
            have hF1 := (fixV_byt U N k (!(bt BV k))).1
            have hF2 := (fixV_byt U N k (bt BV k)).1
            have hF3 := (fixM_byt N k).1
            go_wp2_with (first
              | (refine wl_loadV rfl _ rfl w2.heap.size rfl BV BM l1 hBVl ?_))
            refine (CBV.out k hlt _).mono ?_
            rintro e w5 ⟨rfl, hb5⟩
            have m0 : w5.heap[w1.heap.size]? = some (.cells (cv U N) 30 (0, 0)) := by rw [hb5.block _ (by omega)]; exact l0
            have m1 : w5.heap[w2.heap.size]? = some (.cells (cv BV BM) 30 (0, 0)) := by rw [hb5.block _ (by omega)]; exact l1
            have hB7 := hB6.trans (hb5.mono hB6.size)
            have hz7 := Nat.lt_of_lt_of_le hz6 hb5.size
            have OWN5 : Hid (w5.ownsRow (w2.heap.size + 1) 30 26 u8 Cs.length (ccells Cs)) := own_below OWN4.out hb5
            clear l0 l1 hB6 hb5 OWN4 hz6
            go_wp2_with (first
              | (refine wl_loadC rfl _ rfl w1.heap.size rfl U N m0 hUl hNl ?_))
            refine (CF1.out _).mono ?_
            rintro e w6 ⟨rfl, hb6⟩
            have n0 : w6.heap[w1.heap.size]? = some (.cells (cv U N) 30 (0, 0)) := by rw [hb6.block _ (by omega)]; exact m0
            have n1 : w6.heap[w2.heap.size]? = some (.cells (cv BV BM) 30 (0, 0)) := by rw [hb6.block _ (by omega)]; exact m1
            have hB8 := hB7.trans (hb6.mono hB7.size)
            have hz8 := Nat.lt_of_lt_of_le hz7 hb6.size
            have hown6 := own_below OWN5.out hb6
            clear m0 m1 hB7 hb6 OWN5 hz7 CF1
            obtain ⟨i0, hi, hz0', hz1', hz2'⟩ := infoC
            have hB2 : ∀ g, u8.ownBlock = some g → w2.heap.size + 1 ≤ g := fun g hg => (hown6.lt _ hg).1
            have hcl : (cv (fixV U N k (!(bt BV k))) (fixM N k)).toList.length = 1 * 26 := by rw [Array.length_toList, cv_size _ _ hF1 hF3]
            have hcn : ∀ j u, (cv (fixV U N k (!(bt BV k))) (fixM N k)).toList[j]? = some u → ((w6.alloc (.cells (cv (fixV U N k (!(bt BV k))) (fixM N k)) 30)).alloc (.cells (cv (fixV U N k (!(bt BV k))) (fixM N k)) 30)).cell? ((⟨w6.heap.size + 1, 0, none⟩ : Addr).add j) = some u := by
              have := cells_new (w6.alloc (.cells (cv (fixV U N k (!(bt BV k))) (fixM N k)) 30)) (cv (fixV U N k (!(bt BV k))) (fixM N k)) 30
              rwa [World.size_alloc] at this
            have hco : ∀ u ∈ (cv (fixV U N k (!(bt BV k))) (fixM N k)).toList, u.oneCell' = true := fun u hu => (Array.all_eq_true_iff_forall_mem.1 (cv_one (fixV U N k (!(bt BV k))) (fixM N k))) u (by simpa using hu)
            go_wp2_with (first
              | (refine wl_storeC rfl _ _ rfl w6.heap.size (fixV U N k (!(bt BV k))) (fixM N k) rfl rfl _ (heap_new _ _ _ rfl) rfl hF1 hF3 _ (setRow_new _ _ _ _ _ rfl) ?_)
              | (refine wl_loadC rfl _ rfl w6.heap.size rfl (fixV U N k (!(bt BV k))) (fixM N k) (heap_new _ _ _ rfl) hF1 hF3 ?_)
              | (refine wl_build1 rfl _ rfl (fixV U N k (!(bt BV k))) (fixM N k) hF1 hF3 rfl ?_)
              | (at_builtin; refine of_stopped ?_))
            unfold Stopped
            refine wpList_append_own _ rfl _ _ 22 rfl (w2.heap.size + 1) 30 i0 (.agg zeroC) 26 26 Try.underlying22 hi hz0' hz1' hz2' rfl (by decide) _ _ _ rfl ((hown6.alloc _).alloc _) ⟨w6.heap.size + 1, 0, none⟩ 1 1 (cv (fixV U N k (!(bt BV k))) (fixM N k)).toList rfl hcl hcn hco (by unfold maxLen; omega) (by omega) (by simp; omega) ?_
            intro v' w7 hown' hgrow7 hnil7
            have p0 : w7.heap[w1.heap.size]? = some (.cells (cv U N) 30 (0, 0)) := by
              rw [hgrow7.block _ (by simp; omega) (fun h => by have := hB2 _ h.symm; omega)]; exact heap_past _ _ _ _ (heap_past _ _ _ _ n0)
            have p1 : w7.heap[w2.heap.size]? = some (.cells (cv BV BM) 30 (0, 0)) := by
              rw [hgrow7.block _ (by simp; omega) (fun h => by have := hB2 _ h.symm; omega)]; exact heap_past _ _ _ _ (heap_past _ _ _ _ n1)
            have hB9 : Below w.heap.size w w7 := ((hB8.alloc (by omega) _).alloc (by simp; omega) _).grown hgrow7 (by simp; omega) (fun g hg => by have := hB2 g hg; omega)
            have hz9 : w2.heap.size < w7.heap.size := Nat.lt_of_lt_of_le (by simp; omega) hgrow7.size
            have OWN7 : Hid (w7.ownsRow (w2.heap.size + 1) 30 26 v' (Cs ++ [(fixV U N k (!(bt BV k)), fixM N k)]).length (ccells (Cs ++ [(fixV U N k (!(bt BV k)), fixM N k)]))) := by
              show World.ownsRow _ _ _ _ _ _ _
              rw [ccells_append, ccells_one, List.length_append]; exact hown'
            clear hown' hgrow7 hnil7 hown6 hB2 hcl hcn hco n0 n1 hB8 hi hz0' hz1' hz2' hz8
            simp only [Act.put, List.setIfInBounds_toArray, List.set_cons_succ, List.set_cons_zero]
            go_wp2_with (first
              | (refine wl_loadC rfl _ rfl w1.heap.size rfl U N p0 hUl hNl ?_))
            refine (CF2.out _).mono ?_
            rintro e w8 ⟨rfl, hb8⟩
            have q0 : w8.heap[w1.heap.size]? = some (.cells (cv U N) 30 (0, 0)) := by rw [hb8.block _ (by omega)]; exact p0
            have q1 : w8.heap[w2.heap.size]? = some (.cells (cv BV BM) 30 (0, 0)) := by rw [hb8.block _ (by omega)]; exact p1
            have hB10 := hB9.trans (hb8.mono hB9.size)
            have OWN8 : Hid (w8.ownsRow (w2.heap.size + 1) 30 26 v' (Cs ++ [(fixV U N k (!(bt BV k)), fixM N k)]).length (ccells (Cs ++ [(fixV U N k (!(bt BV k)), fixM N k)]))) := own_below OWN7.out hb8
            clear p0 p1 hB9 hb8 OWN7 hz9 CF2
            go_wp2_with (first
              | (refine wl_storeC rfl _ _ rfl w1.heap.size (fixV U N k (bt BV k)) (fixM N k) rfl rfl _ q0 (cv_size _ _ hUl hNl) hF2 hF3 _ rfl ?_))
            go_roundw
            case rel =>
              refine ⟨k + 1, by omega, by go_num, fixV U N k (bt BV k), fixM N k, Cs ++ [(fixV U N k (!(bt BV k)), fixM N k)], fixV_byt _ _ _ _, fixM_byt _ _, ?_, by simp; omega, own_setRow OWN8.out _ (by omega) _, setRow_heap _ _ _ _ _ _ q0, (setRow_other _ _ _ _ (by omega)).trans q1, below_setRow hB10 (by omega) _⟩
              have := HR.out
              rw [show 104 - k = (104 - (k + 1)) + 1 by omega, mGo_cut _ _ _ _ _ _ HST.out HNB.out HMB.out] at this
              rw [List.append_assoc]
              exact this
            case measure => simp [intOf]; omega
    · obtain rfl : k = 104 := by omega
      go_wp2_with fail
      try rw [Exit.noGoto_ret]
      go_ret
      have hr := HR.out
      rw [show 104 - 104 = 0 from rfl, mGo, List.append_nil] at hr
      subst hr
      exact ⟨_, rfl, own_base OWN.out (by omega), hb⟩
theorem minus_any (V M V' M' : List Int) (hV : Byt V) (hM : Byt M) (hV' : Byt V') (hM' : Byt M') (w : World) :
    Calls Try.prog 46 #[.agg (cv V M), .agg (cv V' M')] w fun e w' => ∃ v, e = .returned v ∧ w'.ownsRow w.heap.size 30 26 v (minusC V M V' M').length (ccells (minusC V M V' M')) ∧ Below w.heap.size w w' := by
  cases h : meets V M V' M'
  · exact minus_no V M V' M' hV hM hV' hM' h w
  · exact minus_yes V M V' M' hV hM hV' hM' h w
end Go.Proofs.Ytjlghkiplapodaa
namespace Go.Proofs.Ytjlghkiplapodaa
open Go Go.RowKit

/-- A cube that lies within a block, from a place on. -/
theorem load_cube (w : World) (g off : Nat) (cs : Array Value) (t : TypeId) (fr : Nat × Nat) (V M : List Int) (hV : V.length = 13) (hM : M.length = 13) (hg : w.heap[g]? = some (.cells cs t fr)) (hc : ∀ j, j < 26 → cs[off + j]? = (cv V M)[j]?) :
    (loadVar 30 ⟨g, off, none⟩).run Try.prog w = .ok (.agg (cv V M)) w := by
  have hsz := cv_size V M hV hM
  have hl : (loadCells ⟨g, off, none⟩ (cv V M).toList.length).run Try.prog w = .ok (cv V M).toList.toArray w :=
    run_loadCells_list (P := Try.prog) w ⟨g, off, none⟩ (cv V M).toList (fun j v hv => by
      have hadd : (⟨g, off, none⟩ : Addr).add j = ⟨g, off + j, none⟩ := by unfold Addr.add; split <;> simp_all
      have hj : j < 26 := by
        have := (List.getElem?_eq_some_iff.1 hv).1
        simpa [hsz] using this
      rw [hadd, cell_of_row w g (off + j) cs t fr hg, hc j hj]
      simpa using hv)
  obtain ⟨i, hq, _, hs, _⟩ := infoC
  have hagg : (isAgg 30).run Try.prog w = .ok true w := by
    unfold isAgg
    rw [Sem.run_bind, run_underlying Try.underlying30 w]
    rfl
  rw [Array.length_toList, hsz, Array.toArray_toList] at hl
  simp [loadVar, Sem.run_bind, hagg, sizeOf, typeInfo, hq, hs, hl]
theorem wl_loadCat {ops : Array Oper} {rest : List Oper} {o : Oper} {a : Act} {w : World} {Q : Exit → Act → World → Prop} (hw : Region.wanted o (yielded ops a.tmps) = true) (x : Operand) (ho : o.op = .load 30 x)
    (g off : Nat) (hx : a.eval x = .pointer (some ⟨g, off, none⟩)) (cs : Array Value) (t : TypeId) (fr : Nat × Nat) (V M : List Int) (hV : V.length = 13) (hM : M.length = 13) (hg : w.heap[g]? = some (.cells cs t fr)) (hc : ∀ j, j < 26 → cs[off + j]? = (cv V M)[j]?)
    (h : wpList Try.prog ops Q rest (a.put o.dst (.agg (cv V M))) w) : wpList Try.prog ops Q (o :: rest) a w := by
  refine wpList_step fun K hK => ?_
  rw [if_pos hw]
  unfold Oper.wp execOp
  simp only [ho, hx, Instr.loadAt, Instr.sureAddr, Sem.run_bind, Sem.run_pure, Result.andThen_ok, load_cube w g off cs t fr V M hV hM hg hc]
  exact hK _ _ h

def m128 : List Int := [128, 0, 0, 0, 0, 0, 0, 0, 0, 0, 0, 0, 0]
def m64 : List Int := [64, 0, 0, 0, 0, 0, 0, 0, 0, 0, 0, 0, 0]
def m192 : List Int := [192, 0, 0, 0, 0, 0, 0, 0, 0, 0, 0, 0, 0]
def m0 : List Int := [0, 0, 0, 0, 0, 0, 0, 0, 0, 0, 0, 0, 0]
theorem Z_m0 : Z = m0 := Z_eq
theorem byt_of (L : List Int) (h1 : L.length = 13) (h2 : ∀ x ∈ L, 0 ≤ x ∧ x < 256) : Byt L := by
  refine ⟨h1, fun k => ?_⟩
  rcases Nat.lt_or_ge k 13 with h | h
  · rw [List.getD, List.getElem?_eq_getElem (by omega)]; exact h2 _ (List.getElem_mem _)
  · rw [List.getD, List.getElem?_eq_none (by omega)]; decide
theorem b128 : Byt m128 := byt_of _ rfl (by decide)
theorem b64 : Byt m64 := byt_of _ rfl (by decide)
theorem b192 : Byt m192 := byt_of _ rfl (by decide)
theorem b0 : Byt m0 := byt_of _ rfl (by decide)

theorem ex1 : fixV m0 m0 0 false = m0 := by kernel_rfl
theorem ex2 : fixM m0 0 = m128 := by kernel_rfl
theorem ex3 : fixV m0 m0 1 true = m64 := by kernel_rfl
theorem ex4 : fixM m0 1 = m64 := by kernel_rfl
theorem ex5 : meets m0 m128 m64 m64 = true := by kernel_rfl
theorem ex6 : meetV m0 m128 m64 m64 = m64 := by kernel_rfl
theorem ex7 : meetM m128 m64 = m192 := by kernel_rfl
theorem ex8 : bt m128 0 = true := by kernel_rfl
theorem ex9 : meets m0 m0 m64 m192 = true := by kernel_rfl
theorem ex10 : meetV m0 m0 m64 m192 = m64 := by kernel_rfl
theorem ex11 : meetM m0 m192 = m192 := by kernel_rfl
theorem ex12 : can m0 m0 = m0 := by kernel_rfl
theorem ex13 : fixV m0 m0 0 true = m128 := by kernel_rfl
theorem ex14 : fixV m0 m128 1 false = m0 := by kernel_rfl
theorem ex15 : fixV m0 m128 1 true = m64 := by kernel_rfl
theorem ex16 : fixM m128 1 = m192 := by kernel_rfl
theorem ex17 : minusC m0 m0 m64 m192 = [(m128, m128), (m0, m192)] := by
  rw [minusC_yes _ _ _ _ ex9, ex10, ex11, ex12, mGo_cut _ _ _ _ _ _ (by kernel_rfl) (by kernel_rfl) (by kernel_rfl), show bt m64 0 = false by kernel_rfl, Bool.not_false, ex13, ex2, ex1, mGo_cut _ _ _ _ _ _ (by kernel_rfl) (by kernel_rfl) (by kernel_rfl), show bt m64 (0 + 1) = true by kernel_rfl, Bool.not_true, ex14, ex15, ex16, mGo_stop _ _ _ _ _ _ (by kernel_rfl)]
theorem ex18 : free m0 = 104 := by kernel_rfl
theorem ex19 : (txt m64 m192).take 3 = [48, 49, 42] := by kernel_rfl
theorem ex20 : (txt m0 m192).take 3 = [48, 48, 42] := by kernel_rfl
theorem txt_length (V M : List Int) : (txt V M).length = 104 := by simp [txt]

theorem all0 (w : World) : Calls Try.prog 25 #[] w fun e w' => e = .returned (.agg (cv m0 m0)) ∧ Below w.heap.size w w' := by
  have := all_any w; rwa [Z_m0] at this
theorem fixA (w : World) : Calls Try.prog 42 #[.agg (cv m0 m0), .int .i64 0, .bool false] w fun e w' => e = .returned (.tuple #[.agg (cv m0 m128), .int .i64 0]) ∧ Below w.heap.size w w' := by
  have := fix_in m0 m0 b0 b0 0 false (by decide) w; rwa [ex1, ex2] at this
theorem fixB (w : World) : Calls Try.prog 42 #[.agg (cv m0 m0), .int .i64 1, .bool true] w fun e w' => e = .returned (.tuple #[.agg (cv m64 m64), .int .i64 0]) ∧ Below w.heap.size w w' := by
  have := fix_in m0 m0 b0 b0 1 true (by decide) w; rwa [ex3, ex4] at this
theorem meetAB (w : World) : Calls Try.prog 27 #[.agg (cv m0 m128), .agg (cv m64 m64)] w fun e w' => e = .returned (.tuple #[.agg (cv m64 m192), .bool true]) ∧ Below w.heap.size w w' := by
  have := meet_any m0 m128 m64 m64 b0 b128 b64 b64 w; rwa [meetR_yes _ _ _ _ ex5, ex6, ex7] at this
theorem splitA (w : World) : Calls Try.prog 24 #[.agg (cv m0 m128), .int .i64 0] w fun e w' => e = .returned (.tuple #[.agg (cv m0 m0), .agg (cv m0 m0), .int .i64 3]) ∧ Below w.heap.size w w' := by
  have := split_fixed m0 m128 rfl b128 0 (by decide) ex8 w; rwa [Z_m0] at this
theorem minusA (w : World) : Calls Try.prog 46 #[.agg (cv m0 m0), .agg (cv m64 m192)] w fun e w' => ∃ (g cap : Nat) (cur : Array Value), e = .returned (.slice (some ⟨g, 0, none⟩) 2 cap) ∧ 2 ≤ cap ∧ cap ≤ maxLen ∧ w'.heap[g]? = some (.cells cur 30 (0, 0)) ∧ (∀ j, j < 26 → cur[26 + j]? = (cv m0 m192)[j]?) ∧ Below w.heap.size w w' := by
  refine (minus_any m0 m0 m64 m192 b0 b0 b64 b192 w).mono ?_
  rintro e w' ⟨v, rfl, hown, hb⟩
  rw [ex17] at hown
  obtain ⟨_, ⟨rfl, h0⟩ | ⟨g, cap, cur, rfl, hB, hcur, h1, h2, h3, h4⟩⟩ := hown
  · simp at h0
  refine ⟨g, cap, cur, rfl, h1, h2, hcur, fun j hj => ?_, hb⟩
  have h5 : (cur.toList.take 52)[26 + j]? = (ccells [(m128, m128), (m0, m192)])[26 + j]? := by rw [← h4]; rfl
  rw [List.getElem?_take_of_lt (by omega)] at h5
  rw [← Array.getElem?_toList, h5]
  simp only [ccells, List.flatMap_cons, List.flatMap_nil, List.append_nil]
  rw [List.getElem?_append_right (by rw [Array.length_toList, cv_size _ _ rfl rfl]; omega), Array.length_toList, cv_size _ _ rfl rfl, Nat.add_sub_cancel_left]
  simp
theorem take3 (T : List UInt8) : ((⟨T.toArray⟩ : ByteArray).extract 0 3).toList = T.take 3 := by
  rw [ByteArray.toList_eq, ByteArray.data_extract, Array.toList_extract]
  simp

end Go.Proofs.Ytjlghkiplapodaa
namespace Go.Proofs.Ytjlghkiplapodaa
open Go.ChangeShapes Go.WideShapes Go.ChangeAt Go.WideMaps Go.WideElems Go.RowKit

theorem own : ownKnob Try.prog.godebug = none := by kernel_rfl
theorem laidOut : laidOutB Try.prog = true := by kernel_rfl

theorem bytes_of {H : Type} {enc : TypeId × Value → H} {W : World} {base : Nat} {spare : Nat → Bool} {held : Bool} {fuel : Nat} {cs : List Value} {x : DataW H × List MemPlace} (hl : cs.length = 13)
    (h : DataW.trod enc Try.prog W base spare held fuel 24 cs = some x) : ∃ L : List Int, cs = L.map (Value.int .u8) ∧ Byt L := by
  have c5 : Try.prog.cellsOf 5 = 1 := by kernel_rfl
  obtain ⟨xs, m, rfl, hx, hlen, hn, hel⟩ := DataW.trod_array Try.underlying24 h
  have each : ∀ i, i < 13 → ∃ z : Int, cs[i]? = some (.int .u8 z) ∧ 0 ≤ z ∧ z < 256 := fun i hi => by
    have h1 := hel i hi
    rw [List.getElem?_eq_getElem (show i < xs.length by omega), c5, Nat.mul_one] at h1
    obtain ⟨z, ez, _, wz⟩ := DataW.trod_int Try.underlying5 h1
    refine ⟨z, ?_, ?_⟩
    · have := congrArg (·[0]?) ez
      simpa [List.getElem?_take, List.getElem?_drop] using this
    · have := bounds_u8 wz
      omega
  refine ⟨cs.map intOf, ?_, by simp [hl], fun k => ?_⟩
  · apply List.ext_getElem?
    intro k
    rcases Nat.lt_or_ge k 13 with hk | hk
    · obtain ⟨z, hz, _⟩ := each k hk
      simp only [List.getElem?_map, hz]
      rfl
    · rw [List.getElem?_eq_none (by omega), List.getElem?_eq_none (by simpa [hl] using hk)]
  · rcases Nat.lt_or_ge k 13 with hk | hk
    · obtain ⟨z, hz, hb⟩ := each k hk
      rw [List.getD, List.getElem?_map, hz]
      exact hb
    · rw [List.getD, List.getElem?_eq_none (by simpa [hl] using hk)]
      decide

/-- A header that comes in: thirteen bytes. -/
theorem open_head {H : Type} {enc : TypeId × Value → H} {W : World} {r : Reach} {b0 base : Nat} {spare : Nat → Bool} {held : Bool} {v : Value} {d : DataW H} {p : List MemPlace}
    (hok : Value.okWide Try.prog W r b0 24 v) (h : DataW.Trod enc Try.prog W base spare held 24 v d p) :
    ∃ L : List Int, v = .agg (hv L) ∧ Byt L := by
  have c : Try.prog.cellsOf 24 = 13 := by kernel_rfl
  simp only [Value.okWide, Try.underlying24] at hok
  obtain ⟨cs, rfl, hsz, _⟩ := hok
  obtain ⟨fuel, hf⟩ := h
  obtain ⟨L, hL, hb⟩ := bytes_of (by simp only [Value.cells, Array.length_toList]; rw [hsz, c]) hf
  refine ⟨L, ?_, hb⟩
  unfold hv
  rw [← hL]
  simp [Value.cells]

/-- A cube that comes in. -/
theorem open_cube {H : Type} {enc : TypeId × Value → H} {W : World} {r : Reach} {b0 base : Nat} {spare : Nat → Bool} {held : Bool} {v : Value} {d : DataW H} {p : List MemPlace}
    (hok : Value.okWide Try.prog W r b0 30 v) (h : DataW.Trod enc Try.prog W base spare held 30 v d p) :
    ∃ V M : List Int, v = .agg (cv V M) ∧ Byt V ∧ Byt M := by
  have c : Try.prog.cellsOf 30 = 26 := by kernel_rfl
  have c13 : Try.prog.cellsOf 24 = 13 := by kernel_rfl
  simp only [Value.okWide, Try.underlying30] at hok
  obtain ⟨cs, rfl, hsz, _⟩ := hok
  rw [c] at hsz
  obtain ⟨fuel, hf⟩ := h
  obtain ⟨y0, y1, k, hy, _, t0, t1⟩ := trod_struct2 Try.underlying30 hf
  simp only [Value.cells] at t0 t1
  rw [c13] at t0 t1
  obtain ⟨V, hV, bV⟩ := bytes_of (by simp; omega) t0
  obtain ⟨M, hM, bM⟩ := bytes_of (by simp; omega) t1
  refine ⟨V, M, ?_, bV, bM⟩
  congr 1
  unfold cv hv
  rw [List.map_append, ← hV, ← hM]
  apply Array.ext'
  simp only [List.drop_zero]
  rw [List.take_of_length_le (l := List.drop 13 cs.toList) (by simp; omega), List.take_append_drop]
end Go.Proofs.Ytjlghkiplapodaa
namespace Go.Proofs.Ytjlghkiplapodaa
open Go Go.RowKit

/-- A bit of a cube: 0, 1, or 2, if it is free. -/
def atI (V M : List Int) (i : Nat) : Int := if bt M i then (if bt V i then 1 else 0) else 2
theorem at_ne2 (V M : List Int) (i : Nat) : (atI V M i != 2) = bt M i := by
  unfold atI; cases bt M i <;> cases bt V i <;> rfl
theorem at_eq1 (V M : List Int) (i : Nat) : (atI V M i == 1) = (bt V i && bt M i) := by
  unfold atI; cases bt M i <;> cases bt V i <;> rfl
theorem at_ne0 (V M : List Int) (i : Nat) : (atI V M i != 0) = ((bt V i && bt M i) || !(bt M i)) := by
  unfold atI; cases bt M i <;> cases bt V i <;> rfl
theorem at_cases (V M : List Int) (i : Nat) : atI V M i = 0 ∨ atI V M i = 1 ∨ atI V M i = 2 := by
  unfold atI; cases bt M i <;> cases bt V i <;> simp

set_option maxHeartbeats 1000000 in
theorem at_any (V M : List Int) (hV : Byt V) (hM : Byt M) (i : Nat) (hi : i < 104) (w : World) :
    Calls Try.prog 43 #[.agg (cv V M), .int .i64 (i : Int)] w fun e w' => e = .returned (.int .i64 (atI V M i)) ∧ Below w.heap.size w w' := by
  have hVl := hV.1
  have hMl := hM.1
  have CM : Hid (∀ W, Calls Try.prog 44 #[.agg (hv M), .int .i64 (i : Int)] W fun e w' => e = .returned (.bool (bt M i)) ∧ Below W.heap.size W w') := rbit_nat M hM i hi
  have CV : Hid (∀ W, Calls Try.prog 44 #[.agg (hv V), .int .i64 (i : Int)] W fun e w' => e = .returned (.bool (bt V i)) ∧ Below W.heap.size W w') := rbit_nat V hV i hi
  clear hV hM
  unfold atI
  obtain ⟨bm, hbm⟩ : ∃ b, b = bt M i := ⟨_, rfl⟩
  obtain ⟨bv, hbv⟩ : ∃ b, b = bt V i := ⟨_, rfl⟩
  rw [← hbm] at CM ⊢
  rw [← hbv] at CV ⊢
  clear hbm hbv
  go_enter Try.func43, Try.ntmps43
  go_wp2_with (first
    | (refine wl_loadM rfl _ rfl w.heap.size rfl V M (heap_new _ _ _ rfl) hVl hMl ?_))
  refine (CM.out _).mono ?_
  rintro e w1 ⟨rfl, hb1⟩
  have g0 : w1.heap[w.heap.size]? = some (.cells (cv V M) 30 (0, 0)) := by rw [hb1.block _ (by simp)]; exact heap_new _ _ _ rfl
  have B1 : Below w.heap.size w w1 := ((Below.refl _ _).alloc (Nat.le_refl _) _).trans (hb1.mono (by simp))
  clear hb1 CM
  cases bm
  · go_wp2_with fail
    go_ret
    exact ⟨rfl, B1⟩
  · go_wp2_with (first
      | (refine wl_loadV rfl _ rfl w.heap.size rfl V M g0 hVl ?_))
    refine (CV.out _).mono ?_
    rintro e w2 ⟨rfl, hb2⟩
    have B2 := B1.trans (hb2.mono B1.size)
    clear hb2 CV
    cases bv
    · go_wp2_with fail
      go_ret
      exact ⟨rfl, B2⟩
    · go_wp2_with fail
      go_ret
      exact ⟨rfl, B2⟩

set_option maxHeartbeats 1000000 in
theorem rset_any (V M : List Int) (hV : Byt V) (hM : Byt M) (i : Nat) (hi : i < 104) (v : Int) (w : World) :
    Calls Try.prog 45 #[.agg (cv V M), .int .i64 (i : Int), .int .i64 v] w fun e w' => e = .returned (.agg (cv (setb V i (v == 1)) (setb M i (v != 2)))) ∧ Below w.heap.size w w' := by
  have hVl := hV.1
  have hMl := hM.1
  have hFl : (setb M i (v != 2)).length = 13 := (setb_byt M i _).1
  have hGl : (setb V i (v == 1)).length = 13 := (setb_byt V i _).1
  have C1 : Hid (∀ W, Calls Try.prog 47 #[.agg (hv M), .int .i64 (i : Int), .bool (v != 2)] W fun e w' => e = .returned (.agg (hv (setb M i (v != 2)))) ∧ Below W.heap.size W w') := rput_nat M hM i hi _
  have C2 : Hid (∀ W, Calls Try.prog 47 #[.agg (hv V), .int .i64 (i : Int), .bool (v == 1)] W fun e w' => e = .returned (.agg (hv (setb V i (v == 1)))) ∧ Below W.heap.size W w') := rput_nat V hV i hi _
  clear hV hM
  obtain ⟨N, hN⟩ : ∃ N, N = setb M i (v != 2) := ⟨_, rfl⟩
  obtain ⟨U, hU⟩ : ∃ U, U = setb V i (v == 1) := ⟨_, rfl⟩
  rw [← hN] at C1 hFl ⊢
  rw [← hU] at C2 hGl ⊢
  clear hN hU
  go_enter Try.func45, Try.ntmps45
  have g0 : ((w.alloc (.cells (cv V M) 30)).alloc (.cells zeroC 30)).heap[w.heap.size]? = some (.cells (cv V M) 30 (0, 0)) := heap_past _ _ _ _ (heap_new _ _ _ rfl)
  have g1 : ((w.alloc (.cells (cv V M) 30)).alloc (.cells zeroC 30)).heap[w.heap.size + 1]? = some (.cells zeroC 30 (0, 0)) := heap_new _ _ _ (by simp)
  have hb : Below w.heap.size w ((w.alloc (.cells (cv V M) 30)).alloc (.cells zeroC 30)) := ((Below.refl _ _).alloc (Nat.le_refl _) _).alloc (by simp) _
  go_wp2_with (first
    | (refine wl_loadM rfl _ rfl w.heap.size rfl V M g0 hVl hMl ?_))
  refine (C1.out _).mono ?_
  rintro e w2 ⟨rfl, hb2⟩
  have m0 : w2.heap[w.heap.size]? = some (.cells (cv V M) 30 (0, 0)) := by rw [hb2.block _ (by simp; omega)]; exact g0
  have m1 : w2.heap[w.heap.size + 1]? = some (.cells zeroC 30 (0, 0)) := by rw [hb2.block _ (by simp)]; exact g1
  have hz2 : w.heap.size + 2 ≤ w2.heap.size := Nat.le_trans (by simp) hb2.size
  have hB2 := hb.trans (hb2.mono hb.size)
  clear g0 g1 hb hb2 C1
  have n0 : (w2.setRow w.heap.size (cv V N)).heap[w.heap.size]? = some (.cells (cv V N) 30 (0, 0)) := setRow_heap _ _ _ _ _ _ m0
  have n1 : (w2.setRow w.heap.size (cv V N)).heap[w.heap.size + 1]? = some (.cells zeroC 30 (0, 0)) := (setRow_other _ _ _ _ (by omega)).trans m1
  go_wp2_with (first
    | (refine wl_storeM rfl _ _ rfl w.heap.size rfl V M N rfl hVl hMl hFl m0 _ rfl ?_)
    | (refine wl_loadV rfl _ rfl w.heap.size rfl V N n0 hVl ?_))
  refine (C2.out _).mono ?_
  rintro e w3 ⟨rfl, hb3⟩
  have p0 : w3.heap[w.heap.size]? = some (.cells (cv V N) 30 (0, 0)) := by rw [hb3.block _ (by simp; omega)]; exact n0
  have p1 : w3.heap[w.heap.size + 1]? = some (.cells zeroC 30 (0, 0)) := by rw [hb3.block _ (by simp; omega)]; exact n1
  have hB3 := (below_setRow hB2 (Nat.le_refl _) (cv V N)).trans (hb3.mono (by simpa using hB2.size))
  clear m0 m1 n0 n1 hB2 hb3 hz2 C2
  have q0 : (w3.setRow w.heap.size (cv U N)).heap[w.heap.size]? = some (.cells (cv U N) 30 (0, 0)) := setRow_heap _ _ _ _ _ _ p0
  have q1 : (w3.setRow w.heap.size (cv U N)).heap[w.heap.size + 1]? = some (.cells zeroC 30 (0, 0)) := (setRow_other _ _ _ _ (by omega)).trans p1
  go_wp2_with (first
    | (refine wl_storeV rfl _ _ rfl w.heap.size rfl V N U rfl hVl hFl hGl p0 _ rfl ?_)
    | (refine wl_loadC rfl _ rfl w.heap.size rfl U N q0 hGl hFl ?_)
    | (refine wl_storeC rfl _ _ rfl (w.heap.size + 1) U N rfl rfl _ q1 rfl hGl hFl _ rfl ?_))
  refine retC (p := 6) rfl rfl (w.heap.size + 1) rfl _ _ hGl hFl (setRow_heap _ _ _ _ _ _ q1) ⟨rfl, ?_⟩
  exact below_setRow (below_setRow hB3 (Nat.le_refl _) _) (by omega) _

/-- The bits ahead of a place, all others nought. -/
def upto (k : Nat) (f : Nat → Bool) : List Int := mk fun j => decide (j < k) && f j
theorem upto_byt (k : Nat) (f : Nat → Bool) : Byt (upto k f) := mk_byt _
theorem upto_zero (f : Nat → Bool) : upto 0 f = Z := mk_ext _ _ fun i _ => by simp
theorem upto_all (f : Nat → Bool) : upto 104 f = mk f := mk_ext _ _ fun i hi => by simp [hi]
theorem upto_succ (k : Nat) (f : Nat → Bool) : setb (upto k f) k (f k) = upto (k + 1) f :=
  mk_ext _ _ fun i hi => by
    by_cases e : i = k
    · subst e; simp
    · rw [if_neg e]
      unfold upto
      rw [mk_bt _ i hi]
      congr 1
      rw [decide_eq_decide]
      omega
end Go.Proofs.Ytjlghkiplapodaa
