import Derived.Test.YtbhnjhiecoapbaaJ23
namespace Go.Proofs.Ytbhnjhiecoapbaa
open Go Go.Lib Go.RowKit Ieee
set_option maxRecDepth 20000

set_option maxHeartbeats 16000000 in
set_option maxRecDepth 100000 in
theorem rmeeting_any (l : List RuleM) (hl0 : ∀ r ∈ l, okR8 r) (hn1 : l.length ≤ 100000) (vl : Value) (V M : List Int) (hV : Byt V) (hM : Byt M) (w : World) (hl : RulesAt w vl l) :
    Calls Try.prog 26 #[vl, .agg (cv V M)] w fun e w' => (∃ v, e = .returned v ∧ w'.ownsRow w.heap.size 30 28 v (meetL V M l).length (gcells ruleV (meetL V M l))) ∧ Below w.heap.size w w' := by
  have ME : Hid (∀ (r : RuleM) W, okR8 r → Calls Try.prog 44 #[.agg (cv r.cube.1 r.cube.2), .agg (cv V M)] W fun e w' => e = .returned (.bool (meets r.cube.1 r.cube.2 V M)) ∧ Below W.heap.size W w') := fun r W hr => rmeets_any r.cube.1 r.cube.2 V M hr.1 hr.2 hV hM W
  have MT : Hid (∀ (r : RuleM) W, okR8 r → meets r.cube.1 r.cube.2 V M = true → Calls Try.prog 45 #[.agg (cv r.cube.1 r.cube.2), .agg (cv V M)] W fun e w' => e = .returned (.tuple #[.agg (cv (meetV r.cube.1 r.cube.2 V M) (meetM r.cube.2 M)), .bool true]) ∧ Below W.heap.size W w') := fun r W hr h => by
    have h2 := rmeet_any r.cube.1 r.cube.2 V M hr.1 hr.2 hV hM W
    rw [meetR_yes _ _ _ _ h] at h2
    exact h2
  have hVl := hV.1
  have hMl := hM.1
  obtain ⟨o, cap, rfl, hc1, hc2⟩ := GSl.slice hl
  obtain ⟨n, hn0⟩ : ∃ n, n = l.length := ⟨_, rfl⟩
  have HN : Hid (n = l.length) := hn0
  rw [← hn0] at hl hc1 hn1 ⊢
  have HL : Hid (RulesAt w (.slice o n cap) l) := hl
  have HOK : Hid (∀ r ∈ l, okR8 r) := hl0
  unfold maxLen at hc2
  obtain ⟨b1, hb1⟩ : ∃ b1, b1 = w.heap.size + 1 := ⟨_, rfl⟩
  have hsa : (w.alloc (.cells (cv V M) 26)).heap.size = b1 := by rw [hb1]; simp
  have O0 : Hid (((w.alloc (.cells (cv V M) 26)).alloc (.cells #[] 30)).ownsRow b1 30 28 (.slice (some ⟨w.heap.size + 1, 0, none⟩) 0 0) 0 []) := by
    have h := own0R (w.alloc (.cells (cv V M) 26)) 30 28
    rw [hsa, hb1] at h
    rw [hb1]
    exact h
  clear hl hn0 hl0 hV hM
  go_enter Try.func26, Try.ntmps26
  go_wp2_with (refine wl_build0R (E := RuleE) RuleOk rfl rfl ?_)
  go_loopw [5, 6] (fun v i wr => ∃ (k : Nat), k ≤ n ∧ i = .int .i64 (k : Int) ∧ Hid (wr.ownsRow b1 30 28 v (meetL V M (l.take k)).length (gcells ruleV (meetL V M (l.take k)))) ∧ Hid (wr.heap[w.heap.size]? = some (.cells (cv V M) 26 (0, 0))) ∧ Hid (Below w.heap.size w wr)) (fun _ i _ => n - (intOf i).toNat)
  case atStart => exact ⟨0, Nat.zero_le _, rfl, O0, heap_past _ _ _ _ (heap_new _ _ _ rfl), ((Below.refl _ _).alloc (Nat.le_refl _) _).alloc (by simp) _⟩
  case round =>
    obtain ⟨k, hk, rfl, HO, HZ, HB⟩ := hrel
    by_cases hlt : k < n
    · have hlt' : (k : Int) < (n : Int) := by omega
      obtain ⟨g, off, cur, ty, fr, r, rfl, hgw, hc, hxk⟩ := HL.out.at k hlt
      have hgl := (Array.getElem?_eq_some_iff.1 hgw).1
      have hr : okR8 r := HOK.out r (List.mem_of_getElem? hxk)
      have HR : Hid (okR8 r) := hr
      have K1 : Hid (wr.heap[g]? = some (.cells cur ty fr)) := (HB.out.block _ hgl).trans hgw
      have H2 : Hid (∀ j, j < 26 → cur[off + k * 28 + 1 + j]? = (cv r.cube.1 r.cube.2)[j]?) := fun j hj => by
        have h3 := hc (1 + j) (by show 1 + j < 28; omega)
        rw [(rule_at hr).2.1 j hj] at h3
        rw [← h3]
        congr 1
        show off + k * 28 + 1 + j = off + k * 28 + (1 + j)
        omega
      have C0 : Hid (cur[off + k * 28]? = some (.int .i64 r.order)) := by
        have h3 := hc 0 (by show 0 < 28; omega)
        rw [(rule_at hr).1] at h3
        exact h3
      have C27 : Hid (cur[off + k * 28 + 27]? = some (.int .i64 r.action)) := by
        have h3 := hc 27 (by show 27 < 28; omega)
        rw [(rule_at hr).2.2] at h3
        exact h3
      have MK : Hid (meetL V M (l.take (k + 1)) = meetL V M (l.take k) ++ (cutR V M r).toList) := meetL_take hxk
      have ML : Hid ((meetL V M (l.take k)).length ≤ 100000) := by
        have h1 := meetL_len V M (l.take k)
        rw [List.length_take] at h1
        exact Nat.le_trans h1 (Nat.le_trans (Nat.min_le_left _ _) (by omega))
      have hrVl := hr.1.1
      have hrMl := hr.2.1
      clear hgw hc hxk hr
      go_wp2_with fail
      have ne1 := Later.ne wr
      refine wp_region_later (by kernel_rfl) (by kernel_rfl) ?_
      repeat go_big_quiet_step (fail)
      refine qlCw rfl _ rfl g (off + k * 28 + 1) rfl cur ty fr r.cube.1 r.cube.2 hrVl hrMl (later_block K1.out) H2.out ?_
      simp only [Act.put, List.setIfInBounds_toArray, List.set_cons_succ, List.set_cons_zero]
      refine qlC rfl _ rfl w.heap.size rfl V M HZ.out hVl hMl ?_
      simp only [Act.put, List.setIfInBounds_toArray, List.set_cons_succ, List.set_cons_zero]
      go_big_quiet_want; go_big_quiet_op
      refine ⟨_, fun u => Calls.later_of (ME.out r u.world HR.out), ?_⟩
      go_big_quiet_on
      repeat go_big_quiet_step (fail)
      refine wpQuiet_nil ?_
      rintro w1 ⟨v5, rfl⟩
      have hb2 := v5.below
      obtain ⟨w1, hw1⟩ : ∃ w1, w1 = v5.world := ⟨_, rfl⟩
      rw [← hw1] at hb2 ⊢
      have B1 : Hid (Below w.heap.size w w1) := HB.out.trans (hb2.mono HB.out.size)
      have Z1 : Hid (w1.heap[w.heap.size]? = some (.cells (cv V M) 26 (0, 0))) := (hb2.block _ (Array.getElem?_eq_some_iff.1 HZ.out).1).trans HZ.out
      have K2 : Hid (w1.heap[g]? = some (.cells cur ty fr)) := (hb2.block _ (Array.getElem?_eq_some_iff.1 K1.out).1).trans K1.out
      have O1 : Hid (w1.ownsRow b1 30 28 u5 (meetL V M (l.take k)).length (gcells ruleV (meetL V M (l.take k)))) := gown_below HO.out hb2
      clear hb2 hw1 v5 ne1 K1 HZ HB HO
      cases hm : meets r.cube.1 r.cube.2 V M with
      | false =>
        have O2 : Hid (w1.ownsRow b1 30 28 u5 (meetL V M (l.take (k + 1))).length (gcells ruleV (meetL V M (l.take (k + 1))))) := by
          have h := O1.out
          have e : meetL V M (l.take (k + 1)) = meetL V M (l.take k) := by rw [MK.out, cutR_no hm]; simp
          show w1.ownsRow _ _ _ _ _ _
          rw [e]
          exact h
        clear hm
        go_wp2_with fail
        go_roundw
        case rel => exact ⟨k + 1, by omega, by go_num, O2, Z1, B1⟩
        case measure => simp [intOf]; omega
      | true =>
        have MC := fun W => MT.out r W HR.out hm
        have ME2 : Hid (meetL V M (l.take (k + 1)) = meetL V M (l.take k) ++ [⟨r.order, (meetV r.cube.1 r.cube.2 V M, meetM r.cube.2 M), r.action⟩]) := by show _ = _; rw [MK.out, cutR_yes hm]; rfl
        have hFV := meetV_byt r.cube.1 r.cube.2 V M
        have hFM := meetM_byt r.cube.2 M
        generalize meetV r.cube.1 r.cube.2 V M = FV at MC ME2 hFV
        generalize meetM r.cube.2 M = FM at MC ME2 hFM
        have MH : Hid (∀ W, Calls Try.prog 45 #[.agg (cv r.cube.1 r.cube.2), .agg (cv V M)] W fun e w' => e = .returned (.tuple #[.agg (cv FV FM), .bool true]) ∧ Below W.heap.size W w') := MC
        have hFVl := hFV.1
        have hFMl := hFM.1
        clear hm MC
        obtain ⟨oP, cP, hu5⟩ := gown_slice O1.out
        go_wp2_with fail
        have ne1 := Later.ne w1
        refine region_cut (fun a a' w' => ∃ gq y23 y24 y25 y26 y27 y28 y29 y30 y31 y32, a' = ((((((((((((a.put (some 7) (.pointer (some ⟨gq, 0, none⟩))).put (some 8) (.bool true)).put (some 23) y23).put (some 24) y24).put (some 25) y25).put (some 26) y26).put (some 27) y27).put (some 28) y28).put (some 29) y29).put (some 30) y30).put (some 31) y31).put (some 32) y32) ∧ w1.heap.size ≤ gq ∧ w'.heap[gq]? = some (.cells (cv FV FM) 26 (0, 0)) ∧ Below w1.heap.size w1 w') ?_ ?_
        · refine region_begin 13 rfl (by kernel_rfl) ?_
          refine region_reads 0 6 7 rfl (by kernel_rfl) (by kernel_rfl) (by kernel_rfl) (by intro d v c a w h; exact absurd h.1 (by simp)) ⟨⟨w1.drew, (Below.refl _ _).drew⟩, rfl⟩ ?_
          simp only [List.drop_zero, List.take_succ_cons, List.take_zero]
          repeat go_big_quiet_step (fail)
          refine qlCw rfl _ rfl g (off + k * 28 + 1) rfl cur ty fr r.cube.1 r.cube.2 hrVl hrMl (later_block K2.out) H2.out ?_
          simp only [Act.put, List.setIfInBounds_toArray, List.set_cons_succ, List.set_cons_zero]
          refine qlC rfl _ rfl w.heap.size rfl V M Z1.out hVl hMl ?_
          simp only [Act.put, List.setIfInBounds_toArray, List.set_cons_succ, List.set_cons_zero]
          refine wpQuiet_nil ?_
          refine wpAnyH_all (rs := [6, 10]) (by kernel_rfl) (by decide) ?_
          intro i hi
          simp only [List.mem_cons, List.not_mem_nil, or_false] at hi
          rcases hi with rfl | rfl
          · refine wpOp_call rfl rfl 45 #[.tmp 28, .tmp 29] (by intro b w; have hf := Try.func45; simp [go_sem]) #[.agg (cv r.cube.1 r.cube.2), .agg (cv V M)] rfl (fun v w' => v = .tuple #[.agg (cv FV FM), .bool true] ∧ Below w1.drew.heap.size w1.drew w') ((MH.out _).mono fun e w' h => ⟨_, h.1, rfl, h.2⟩) (some 30) rfl ?_
            rintro v wz ⟨rfl, hz⟩
            have hy : Below w1.heap.size w1 wz := (Below.refl w1.heap.size w1).drew.trans (hz.mono (Below.refl w1.heap.size w1).drew.size)
            refine ⟨⟨⟨wz, hy⟩, rfl⟩, ?_⟩
            simp only [Act.put, List.setIfInBounds_toArray, List.set_cons_succ, List.set_cons_zero]
            refine region_reads 7 3 3 rfl (by kernel_rfl) (by kernel_rfl) (by kernel_rfl) (by intro d v c a w h; exact absurd h.1 (by simp)) ⟨⟨wz, hy⟩, rfl⟩ ?_
            simp only [List.drop_succ_cons, List.drop_zero, List.take_succ_cons, List.take_zero]
            repeat go_big_quiet_step (fail)
            refine wpQuiet_nil ?_
            refine wpAnyH_all (rs := [10]) (by kernel_rfl) (by decide) ?_
            intro i hi
            obtain rfl := List.mem_singleton.1 hi
            refine wpOp_allocC rfl rfl rfl (some 7) rfl ?_
            have ha : Below w1.heap.size w1 (wz.alloc (.cells zeroC 26)) := hy.alloc hy.size _
            have hag : (wz.alloc (.cells zeroC 26)).heap[wz.heap.size]? = some (.cells zeroC 26 (0, 0)) := heap_new _ _ _ rfl
            refine ⟨⟨⟨_, ha⟩, rfl⟩, ?_⟩
            simp only [Act.put, List.setIfInBounds_toArray, List.set_cons_succ, List.set_cons_zero]
            refine wpAnyH_all (rs := [11]) (by kernel_rfl) (by decide) ?_
            intro i hi
            obtain rfl := List.mem_singleton.1 hi
            have hbl : w1.heap.size ≤ wz.heap.size := hy.size
            refine wpOp_storeC rfl rfl _ _ rfl (wz.heap.size) FV FM rfl rfl _ hag rfl hFVl hFMl none rfl ?_
            refine ⟨⟨⟨_, below_setRow ha hbl _⟩, rfl⟩, ?_⟩
            refine wpAnyH_all (rs := [12]) (by kernel_rfl) (by decide) ?_
            intro i hi
            obtain rfl := List.mem_singleton.1 hi
            refine wpOp_assign rfl rfl _ rfl (.bool true) rfl (some 8) rfl ?_
            refine ⟨⟨⟨_, below_setRow ha hbl _⟩, rfl⟩, ?_⟩
            refine wpAnyH_done (by kernel_rfl) ?_ _
            exact ⟨rfl, wz.heap.size, _, _, _, _, _, _, _, _, _, _, rfl, hbl, setRow_heap _ _ _ _ _ _ hag, below_setRow ha hbl _⟩
          · refine wpOp_allocC rfl rfl rfl (some 7) rfl ?_
            have ha : Below w1.heap.size w1 (w1.drew.alloc (.cells zeroC 26)) := (Below.refl w1.heap.size w1).drew.alloc (Below.refl w1.heap.size w1).drew.size _
            have hag : (w1.drew.alloc (.cells zeroC 26)).heap[w1.drew.heap.size]? = some (.cells zeroC 26 (0, 0)) := heap_new _ _ _ rfl
            refine ⟨⟨⟨_, ha⟩, rfl⟩, ?_⟩
            simp only [Act.put, List.setIfInBounds_toArray, List.set_cons_succ, List.set_cons_zero]
            refine wpAnyH_all (rs := [6]) (by kernel_rfl) (by decide) ?_
            intro i hi
            obtain rfl := List.mem_singleton.1 hi
            refine wpOp_call rfl rfl 45 #[.tmp 28, .tmp 29] (by intro b w; have hf := Try.func45; simp [go_sem]) #[.agg (cv r.cube.1 r.cube.2), .agg (cv V M)] rfl (fun v w' => v = .tuple #[.agg (cv FV FM), .bool true] ∧ Below (w1.drew.alloc (.cells zeroC 26)).heap.size (w1.drew.alloc (.cells zeroC 26)) w') ((MH.out _).mono fun e w' h => ⟨_, h.1, rfl, h.2⟩) (some 30) rfl ?_
            rintro v wz ⟨rfl, hz⟩
            have hy : Below w1.heap.size w1 wz := ha.trans (hz.mono ha.size)
            have hx : wz.heap[w1.drew.heap.size]? = some (.cells zeroC 26 (0, 0)) := (hz.block _ (Array.getElem?_eq_some_iff.1 hag).1).trans hag
            refine ⟨⟨⟨wz, hy⟩, rfl⟩, ?_⟩
            simp only [Act.put, List.setIfInBounds_toArray, List.set_cons_succ, List.set_cons_zero]
            refine region_reads 7 3 2 rfl (by kernel_rfl) (by kernel_rfl) (by kernel_rfl) (by intro d v c a w h; exact absurd h.1 (by simp)) ⟨⟨wz, hy⟩, rfl⟩ ?_
            simp only [List.drop_succ_cons, List.drop_zero, List.take_succ_cons, List.take_zero]
            repeat go_big_quiet_step (fail)
            refine wpQuiet_nil ?_
            refine wpAnyH_all (rs := [11]) (by kernel_rfl) (by decide) ?_
            intro i hi
            obtain rfl := List.mem_singleton.1 hi
            have hbl : w1.heap.size ≤ w1.drew.heap.size := Nat.le_refl _
            refine wpOp_storeC rfl rfl _ _ rfl (w1.drew.heap.size) FV FM rfl rfl _ hx rfl hFVl hFMl none rfl ?_
            refine ⟨⟨⟨_, below_setRow hy hbl _⟩, rfl⟩, ?_⟩
            refine wpAnyH_all (rs := [12]) (by kernel_rfl) (by decide) ?_
            intro i hi
            obtain rfl := List.mem_singleton.1 hi
            refine wpOp_assign rfl rfl _ rfl (.bool true) rfl (some 8) rfl ?_
            refine ⟨⟨⟨_, below_setRow hy hbl _⟩, rfl⟩, ?_⟩
            refine wpAnyH_done (by kernel_rfl) ?_ _
            exact ⟨rfl, w1.drew.heap.size, _, _, _, _, _, _, _, _, _, _, rfl, hbl, setRow_heap _ _ _ _ _ _ hx, below_setRow hy hbl _⟩
        · rintro a' w' ⟨gq, y23, y24, y25, y26, y27, y28, y29, y30, y31, y32, rfl, hgq, hcq, hbq⟩
          simp only [Act.put, List.setIfInBounds_toArray, List.set_cons_succ, List.set_cons_zero]
          have B3 : Hid (Below w.heap.size w w') := B1.out.trans (hbq.mono B1.out.size)
          have O3 := gown_below O1.out hbq
          rw [hu5] at O3
          have K3 := (hbq.block _ (Array.getElem?_eq_some_iff.1 K2.out).1).trans K2.out
          have Z3 := (hbq.block _ (Array.getElem?_eq_some_iff.1 Z1.out).1).trans Z1.out
          have hbs : b1 ≤ w'.heap.size := by
            have h1 := (Array.getElem?_eq_some_iff.1 Z3).1
            omega
          have hne1 : ∀ j, (Value.slice oP (meetL V M (l.take k)).length cP).ownBlock = some j → b1 ≤ j ∧ j < w1.heap.size := fun j hj => by
            have h := O1.out
            rw [hu5] at h
            exact h.lt j hj
          subst hu5
          go_wp2_with fail
          refine mp_region (w00 := w') (by simp) b1 oP _ cP k g off cap n gq FV FM hFV hFM r.order r.action (meetL V M (l.take k)) cur ty fr rfl rfl rfl rfl hlt hcq K3 C0.out C27.out O3 ML.out hbs (Below.refl _ _) (fun h => by have := (hne1 gq h).2; omega) (fun h => by have := (hne1 g h).1; omega) ?_
          intro y w3 v3 hI hO3
          have B4 : Hid (Below w.heap.size w w3) := B3.out.trans (hI.below.mono (by omega))
          have Z4 : Hid (w3.heap[w.heap.size]? = some (.cells (cv V M) 26 (0, 0))) := (hI.below.block _ (by omega)).trans Z3
          have O4 : Hid (w3.ownsRow b1 30 28 v3 (meetL V M (l.take (k + 1))).length (gcells ruleV (meetL V M (l.take (k + 1))))) := by show w3.ownsRow _ _ _ _ _ _; rw [ME2.out]; exact hO3
          simp only [putsD, mp_D0, List.foldl_cons, List.foldl_nil, Act.put, List.setIfInBounds_toArray, List.set_cons_succ, List.set_cons_zero]
          clear hI hO3 K3 Z3 O3 hcq hbq hgq hne1
          go_wp2_with fail
          go_roundw
          case rel => exact ⟨k + 1, by omega, by go_num, O4, Z4, B4⟩
          case measure => simp [intOf]; omega
    · have hlt' : ¬ (k : Int) < (n : Int) := by omega
      have O2 : Hid (wr.ownsRow w.heap.size 30 28 u5 (meetL V M l).length (gcells ruleV (meetL V M l))) := by
        have h := HO.out
        rw [List.take_of_length_le (by have := HN.out; omega)] at h
        exact own_base h (by omega)
      go_wp2_with fail
      go_ret
      exact ⟨⟨_, rfl, O2.out⟩, HB.out⟩
end Go.Proofs.Ytbhnjhiecoapbaa
namespace Go.Proofs.Ytbhnjhiecoapbaa
open Go Go.Lib Go.RowKit Ieee
set_option maxRecDepth 20000

set_option maxHeartbeats 8000000 in
theorem rclip12_any (l : List RuleM) (hl0 : ∀ r ∈ l, okR8 r) (hn1 : l.length ≤ 100000) (vl : Value) (V M : List Int) (hV : Byt V) (hM : Byt M) (w : World) (hl : RulesAt w vl l) :
    Calls Try.prog 13 #[vl, .agg (cv V M)] w fun e w' => (∃ v, e = .returned v ∧ w'.ownsRow w.heap.size 30 28 v (clipT V M l).length (gcells ruleV (clipT V M l))) ∧ Below w.heap.size w w' := by
  have hVl := hV.1
  have hMl := hM.1
  have C1 : Hid (∀ W, Below w.heap.size w W → Calls Try.prog 26 #[vl, .agg (cv V M)] W fun e w' => (∃ v, e = .returned v ∧ w'.ownsRow W.heap.size 30 28 v (meetL V M l).length (gcells ruleV (meetL V M l))) ∧ Below W.heap.size W w') := fun W hb => rmeeting_any l hl0 hn1 vl V M hV hM W (GSl.below hl hb)
  have C2 : Hid (∀ v W, RulesAt W v (meetL V M l) → Calls Try.prog 25 #[v] W fun e w' => (∃ v, e = .returned v ∧ w'.ownsRow W.heap.size 30 28 v (clipT V M l).length (gcells ruleV (clipT V M l))) ∧ Below W.heap.size W w') := fun v W h => rtrim_any (meetL V M l) meetL_ok (Nat.le_trans (meetL_len V M l) hn1) v W h
  have K0 : Hid ((w.alloc (.cells (cv V M) 26)).heap[w.heap.size]? = some (.cells (cv V M) 26 (0, 0))) := heap_new _ _ _ rfl
  have B0 : Hid (Below w.heap.size w (w.alloc (.cells (cv V M) 26))) := (Below.refl _ _).alloc (Nat.le_refl _) _
  clear hl hl0 hn1 hV hM
  go_enter Try.func13, Try.ntmps13
  go_wp2_with (first | (refine wl_loadCw rfl _ rfl w.heap.size 0 rfl _ _ _ V M hVl hMl K0.out (own_cells _ _) ?_))
  refine (C1.out _ B0.out).mono ?_
  rintro e w1 ⟨⟨v1, rfl, ho1⟩, hb1⟩
  have B1 : Hid (Below w.heap.size w w1) := B0.out.trans (hb1.mono B0.out.size)
  have A1 : Hid (RulesAt w1 v1 (meetL V M l)) := RulesAt.own meetL_ok ho1
  clear hb1 ho1 K0 B0
  go_wp2_with fail
  refine (C2.out _ _ A1.out).mono ?_
  rintro e w2 ⟨⟨v2, rfl, ho2⟩, hb2⟩
  have B2 : Hid (Below w.heap.size w w2) := B1.out.trans (hb2.mono B1.out.size)
  have O2 : Hid (w2.ownsRow w.heap.size 30 28 v2 (clipT V M l).length (gcells ruleV (clipT V M l))) := own_base ho2 B1.out.size
  clear hb2 ho2
  go_wp2_with fail
  go_ret
  exact ⟨⟨_, rfl, O2.out⟩, B2.out⟩
end Go.Proofs.Ytbhnjhiecoapbaa
namespace Go.Proofs.Ytbhnjhiecoapbaa
open Go Go.Lib Go.RowKit Ieee
set_option maxRecDepth 20000

set_option maxHeartbeats 16000000 in
set_option maxRecDepth 100000 in
theorem lawUClips_any (l0 : List RuleM) (hok0 : ∀ r ∈ l0, okR8 r) (vl : Value) (V M : List Int) (hV : Byt V) (hM : Byt M) (H : List Int) (hH : Byt H) (w : World) (hl0 : RulesAt w vl l0) :
    Calls Try.prog 3 #[vl, .agg (cv V M), .agg (hv H)] w fun e w' => e = .returned (.bool true) ∧ Below w.heap.size w w' := by
  obtain ⟨o, n0, n, cap, l, rfl, K⟩ := cut24 hok0 hl0
  have hVl := hV.1
  have hMl := hM.1
  have hHl := hH.1
  have hc1 := K.cap1
  have hc2 := K.cap2
  unfold maxLen at hc2
  have hn0' := K.le
  have HNM : Hid ((n : Int) = min (n0 : Int) 24) := K.min
  have hsl := K.slice
  have hlen : l.length ≤ 100000 := by rw [K.len]; have := K.min; omega
  have hTn : (clipT V M l).length ≤ n := by have := clip_len V M l; rw [K.len] at this; exact this
  have hTok : ∀ r ∈ clipT V M l, okR8 r := clip_ok
  have hsay := clip_says V M H l
  have AW : Hid (∀ W, Calls Try.prog 9 #[] W fun e w' => e = .returned (.bool true) ∧ Below W.heap.size W w') := fun W => awake12_any W
  have T1 : Hid (∀ W, Below w.heap.size w W → Calls Try.prog 10 #[.slice o n cap, .agg (cv V M)] W fun e w' => (∃ v, e = .returned v ∧ w'.ownsRow W.heap.size 30 28 v (clipT V M l).length (gcells ruleV (clipT V M l))) ∧ Below W.heap.size W w') := fun W hb => clip_any l K.ok hlen _ V M hV hM W (GSl.below K.at_ hb)
  have T2 : Hid (∀ W, Below w.heap.size w W → Calls Try.prog 13 #[.slice o n cap, .agg (cv V M)] W fun e w' => (∃ v, e = .returned v ∧ w'.ownsRow W.heap.size 30 28 v (clipT V M l).length (gcells ruleV (clipT V M l))) ∧ Below W.heap.size W w') := fun W hb => rclip12_any l K.ok hlen _ V M hV hM W (GSl.below K.at_ hb)
  have L1 : Hid (∀ W, Below w.heap.size w W → Calls Try.prog 11 #[.slice o n cap, .agg (hv H)] W fun e w' => e = .returned (.tuple #[.agg (ruleV (lookT l H).1), .bool (lookT l H).2]) ∧ Below W.heap.size W w') := fun W hb => look_any l K.ok _ H hH W (GSl.below K.at_ hb)
  have HA : Hid (∀ W, Calls Try.prog 14 #[.agg (cv V M), .agg (hv H)] W fun e w' => e = .returned (.bool (has V M H)) ∧ Below W.heap.size W w') := fun W => has_any V M H hV hM hH W
  have hr1 := look_ok12 K.ok H
  generalize clipT V M l = T at T1 T2 hTn hTok hsay
  have L2 : Hid (∀ v W, RulesAt W v T → Calls Try.prog 11 #[v, .agg (hv H)] W fun e w' => e = .returned (.tuple #[.agg (ruleV (lookT T H).1), .bool (lookT T H).2]) ∧ Below W.heap.size W w') := fun v W h => look_any T hTok v H hH W h
  have SM : Hid (∀ va vb W, RulesAt W va T → RulesAt W vb T → Calls Try.prog 12 #[va, vb] W fun e w' => e = .returned (.bool true) ∧ Below W.heap.size W w') := fun va vb W h1 h2 => rsame8_any T hTok va vb W h1 h2
  have hr2 := look_ok12 hTok H
  have HNO : Hid (has V M H = false → (lookT T H).2 = false) := fun h => by
    rw [if_neg (by rw [h]; simp)] at hsay
    exact says_none hsay
  have HYES : Hid (has V M H = true → (lookT l H).2 = (lookT T H).2 ∧ (lookT l H).1.order = (lookT T H).1.order ∧ (lookT l H).1.action = (lookT T H).1.action) := fun h => by
    rw [if_pos h] at hsay
    exact says_look hsay.symm
  obtain ⟨⟨r, ok⟩, hS⟩ : ∃ S, S = lookT l H := ⟨_, rfl⟩
  obtain ⟨⟨s, is⟩, hS2⟩ : ∃ S, S = lookT T H := ⟨_, rfl⟩
  rw [← hS] at L1 hr1 HYES
  rw [← hS2] at L2 hr2 HNO HYES
  simp only at L1 L2 hr1 hr2 HNO HYES
  have HR : Hid (okR8 r) := hr1
  have HS : Hid (okR8 s) := hr2
  have HTK : Hid (∀ r ∈ T, okR8 r) := hTok
  obtain ⟨w0, hw0⟩ : ∃ w0, w0 = (w.alloc (.cells (cv V M) 26)).alloc (.cells (hv H) 24) := ⟨_, rfl⟩
  have C0 : Hid (w0.heap[w.heap.size]? = some (.cells (cv V M) 26 (0, 0))) := by show _ = _; rw [hw0]; exact heap_past _ _ _ _ (heap_new _ _ _ rfl)
  have K0 : Hid (w0.heap[w.heap.size + 1]? = some (.cells (hv H) 24 (0, 0))) := by show _ = _; rw [hw0]; exact heap_new _ _ _ (by simp)
  have B0 : Hid (Below w.heap.size w w0) := by show Below _ _ _; rw [hw0]; exact ((Below.refl _ _).alloc (Nat.le_refl _) _).alloc (by simp) _
  have W0 : Hid (w0 = _) := hw0
  generalize hb : has V M H = bb at HA HNO HYES
  clear K hl0 hok0 hlen hsay hr1 hr2 hS hS2 hTok hw0 hb
  obtain ⟨nT, hnT⟩ : ∃ n, n = T.length := ⟨_, rfl⟩
  rw [← hnT] at T1 T2 hTn
  have HNT : Hid (nT = T.length) := hnT
  clear hnT
  go_enter Try.func3, Try.ntmps3
  go_wp2_with fail
  rw [← W0.out]
  refine (AW.out _).mono ?_
  rintro e w1 ⟨rfl, hb1⟩
  have B1 : Hid (Below w.heap.size w w1) := B0.out.trans (hb1.mono B0.out.size)
  have C1 : Hid (w1.heap[w.heap.size]? = some (.cells (cv V M) 26 (0, 0))) := (hb1.block _ (Array.getElem?_eq_some_iff.1 C0.out).1).trans C0.out
  have R1 : Hid (w1.heap[w.heap.size + 1]? = some (.cells (hv H) 24 (0, 0))) := (hb1.block _ (Array.getElem?_eq_some_iff.1 K0.out).1).trans K0.out
  clear hb1 K0 B0 C0 W0
  go_wp2_with (first | (refine wl_min7 rfl _ _ rfl (n0 : Int) 24 (n : Int) rfl rfl HNM.out ?_) | (refine wl_loadCw rfl _ rfl w.heap.size 0 rfl _ _ _ V M hVl hMl C1.out (own_cells _ _) ?_))
  refine (T1.out _ B1.out).mono ?_
  rintro e w2 ⟨⟨vt, rfl, ho2⟩, hb2⟩
  have B2 : Hid (Below w.heap.size w w2) := B1.out.trans (hb2.mono B1.out.size)
  have C2 : Hid (w2.heap[w.heap.size]? = some (.cells (cv V M) 26 (0, 0))) := (hb2.block _ (Array.getElem?_eq_some_iff.1 C1.out).1).trans C1.out
  have R2 : Hid (w2.heap[w.heap.size + 1]? = some (.cells (hv H) 24 (0, 0))) := (hb2.block _ (Array.getElem?_eq_some_iff.1 R1.out).1).trans R1.out
  obtain ⟨ot, ct, rfl⟩ := gown_slice ho2
  have A2 : Hid (RulesAt w2 (.slice ot nT ct) T) := by
    have h3 := ho2
    rw [HNT.out] at h3
    have h4 := RulesAt.own HTK.out h3
    rw [← HNT.out] at h4
    exact h4
  clear hb2 ho2 R1 B1 C1
  go_wp2_with (refine wl_load26 rfl _ rfl (w.heap.size + 1) rfl H R2.out hHl ?_)
  refine (L1.out _ B2.out).mono ?_
  rintro e w3 ⟨rfl, hb3⟩
  obtain ⟨w4, hw4⟩ : ∃ w4, w4 = w3.alloc (.cells (ruleV r) 30) := ⟨_, rfl⟩
  have b24 : Below w2.heap.size w2 w4 := by rw [hw4]; exact hb3.alloc hb3.size _
  have B4 : Hid (Below w.heap.size w w4) := B2.out.trans (b24.mono B2.out.size)
  have C4 : Hid (w4.heap[w.heap.size]? = some (.cells (cv V M) 26 (0, 0))) := (b24.block _ (Array.getElem?_eq_some_iff.1 C2.out).1).trans C2.out
  have R4 : Hid (w4.heap[w.heap.size + 1]? = some (.cells (hv H) 24 (0, 0))) := (b24.block _ (Array.getElem?_eq_some_iff.1 R2.out).1).trans R2.out
  have X4 : Hid (w4.heap[w3.heap.size]? = some (.cells (ruleV r) 30 (0, 0))) := by show _ = _; rw [hw4]; exact heap_new _ _ _ rfl
  have A4 : Hid (RulesAt w4 (.slice ot nT ct) T) := GSl.below A2.out b24
  clear b24 hb3 A2 R2 B2 C2
  go_wp2_with (refine wl_storeE (E := RuleE) RuleOk rfl _ _ rfl w3.heap.size (ruleV r) (rule_fits HR.out) rfl rfl _ (heap_new _ _ _ rfl) rfl _ (setRow_new _ _ _ _ _ rfl) ?_; refine of_stopT ?_)
  unfold StopT
  rw [← hw4]
  clear hw4
  generalize w3.heap.size = q3 at X4
  go_wp2_with (refine wl_load26 rfl _ rfl (w.heap.size + 1) rfl H R4.out hHl ?_)
  refine (L2.out _ _ A4.out).mono ?_
  rintro e w5 ⟨rfl, hb5⟩
  obtain ⟨w6, hw6⟩ : ∃ w6, w6 = w5.alloc (.cells (ruleV s) 30) := ⟨_, rfl⟩
  have b46 : Below w4.heap.size w4 w6 := by rw [hw6]; exact hb5.alloc hb5.size _
  have B6 : Hid (Below w.heap.size w w6) := B4.out.trans (b46.mono B4.out.size)
  have C6 : Hid (w6.heap[w.heap.size]? = some (.cells (cv V M) 26 (0, 0))) := (b46.block _ (Array.getElem?_eq_some_iff.1 C4.out).1).trans C4.out
  have R6 : Hid (w6.heap[w.heap.size + 1]? = some (.cells (hv H) 24 (0, 0))) := (b46.block _ (Array.getElem?_eq_some_iff.1 R4.out).1).trans R4.out
  have X6 : Hid (w6.heap[q3]? = some (.cells (ruleV r) 30 (0, 0))) := (b46.block _ (Array.getElem?_eq_some_iff.1 X4.out).1).trans X4.out
  have Y6 : Hid (w6.heap[w5.heap.size]? = some (.cells (ruleV s) 30 (0, 0))) := by show _ = _; rw [hw6]; exact heap_new _ _ _ rfl
  have A6 : Hid (RulesAt w6 (.slice ot nT ct) T) := GSl.below A4.out b46
  clear b46 hb5 A4 R4 B4 C4 X4
  go_wp2_with (refine wl_storeE (E := RuleE) RuleOk rfl _ _ rfl w5.heap.size (ruleV s) (rule_fits HS.out) rfl rfl _ (heap_new _ _ _ rfl) rfl _ (setRow_new _ _ _ _ _ rfl) ?_; refine of_stopT ?_)
  unfold StopT
  rw [← hw6]
  clear hw6
  generalize w5.heap.size = q5 at Y6
  go_wp2_with (refine wl_loadCw rfl _ rfl w.heap.size 0 rfl _ _ _ V M hVl hMl C6.out (own_cells _ _) ?_)
  refine (T2.out _ B6.out).mono ?_
  rintro e w7 ⟨⟨vu, rfl, ho7⟩, hb7⟩
  have B7 : Hid (Below w.heap.size w w7) := B6.out.trans (hb7.mono B6.out.size)
  have C7 : Hid (w7.heap[w.heap.size]? = some (.cells (cv V M) 26 (0, 0))) := (hb7.block _ (Array.getElem?_eq_some_iff.1 C6.out).1).trans C6.out
  have R7 : Hid (w7.heap[w.heap.size + 1]? = some (.cells (hv H) 24 (0, 0))) := (hb7.block _ (Array.getElem?_eq_some_iff.1 R6.out).1).trans R6.out
  have X7 : Hid (w7.heap[q3]? = some (.cells (ruleV r) 30 (0, 0))) := (hb7.block _ (Array.getElem?_eq_some_iff.1 X6.out).1).trans X6.out
  have Y7 : Hid (w7.heap[q5]? = some (.cells (ruleV s) 30 (0, 0))) := (hb7.block _ (Array.getElem?_eq_some_iff.1 Y6.out).1).trans Y6.out
  have A7 : Hid (RulesAt w7 (.slice ot nT ct) T) := GSl.below A6.out hb7
  have U7 : Hid (RulesAt w7 vu T) := by
    have h3 := ho7
    rw [HNT.out] at h3
    exact RulesAt.own HTK.out h3
  clear hb7 ho7 A6 R6 B6 C6 X6 Y6
  go_wp2_with fail
  refine (SM.out _ _ _ A7.out U7.out).mono ?_
  rintro e w8 ⟨rfl, hb8⟩
  have B8 : Hid (Below w.heap.size w w8) := B7.out.trans (hb8.mono B7.out.size)
  have C8 : Hid (w8.heap[w.heap.size]? = some (.cells (cv V M) 26 (0, 0))) := (hb8.block _ (Array.getElem?_eq_some_iff.1 C7.out).1).trans C7.out
  have R8 : Hid (w8.heap[w.heap.size + 1]? = some (.cells (hv H) 24 (0, 0))) := (hb8.block _ (Array.getElem?_eq_some_iff.1 R7.out).1).trans R7.out
  have X8 : Hid (w8.heap[q3]? = some (.cells (ruleV r) 30 (0, 0))) := (hb8.block _ (Array.getElem?_eq_some_iff.1 X7.out).1).trans X7.out
  have Y8 : Hid (w8.heap[q5]? = some (.cells (ruleV s) 30 (0, 0))) := (hb8.block _ (Array.getElem?_eq_some_iff.1 Y7.out).1).trans Y7.out
  clear hb8 A7 U7 R7 B7 C7 X7 Y7
  have hnn : decide ((n : Int) < (nT : Int)) = false := by simp; omega
  go_wp2_with (first | (refine wl_loadCw rfl _ rfl w.heap.size 0 rfl _ _ _ V M hVl hMl C8.out (own_cells _ _) ?_) | (refine wl_load26 rfl _ rfl (w.heap.size + 1) rfl H R8.out hHl ?_))
  refine (HA.out _).mono ?_
  rintro e w9 ⟨rfl, hb9⟩
  have B9 : Hid (Below w.heap.size w w9) := B8.out.trans (hb9.mono B8.out.size)
  have X9 := (hb9.block _ (Array.getElem?_eq_some_iff.1 X8.out).1).trans X8.out
  have Y9 := (hb9.block _ (Array.getElem?_eq_some_iff.1 Y8.out).1).trans Y8.out
  cases bb with
  | false =>
    have hi := HNO.out rfl
    clear hb9 X9 Y9
    subst hi
    go_wp2_with fail
    go_ret
    exact ⟨rfl, B9.out⟩
  | true =>
    obtain ⟨h1, h2, h3⟩ := HYES.out rfl
    have c0 : w9.cell? ⟨q3, 0, none⟩ = some (.int .i64 r.order) := (cell_of_row _ _ _ _ _ _ X9).trans (rule_at HR.out).1
    have c27 : w9.cell? ⟨q3, 27, none⟩ = some (.int .i64 r.action) := (cell_of_row _ _ _ _ _ _ X9).trans (rule_at HR.out).2.2
    have d0 : w9.cell? ⟨q5, 0, none⟩ = some (.int .i64 r.order) := (cell_of_row _ _ _ _ _ _ Y9).trans (by rw [h2]; exact (rule_at HS.out).1)
    have d27 : w9.cell? ⟨q5, 27, none⟩ = some (.int .i64 r.action) := (cell_of_row _ _ _ _ _ _ Y9).trans (by rw [h3]; exact (rule_at HS.out).2.2)
    have hbb : (ok == ok) = true := by simp
    subst h1
    clear hb9 X9 Y9 h2 h3
    go_wp2_with fail
    go_ret
    exact ⟨rfl, B9.out⟩
end Go.Proofs.Ytbhnjhiecoapbaa
