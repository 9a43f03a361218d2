import Derived.Test.YtplnlmkmaapbaaaCross
namespace Go.Proofs.Ytplnlmkmaapbaaa
open Go Go.RowKit

set_option maxHeartbeats 4000000 in
theorem rcross_any (A B : List (List Int × List Int)) (hA : A.length ≤ 1000) (hB : B.length ≤ 1000) (m : Int) (va vb : Value) (w : World) (hsa : Sl w va A) (hsb : Sl w vb B) :
    Calls Try.prog 12 #[va, vb, .int .i64 m] w fun e w' => ((∃ u, e = .returned (.tuple #[u, .int .i64 0]) ∧ (crossL A B).length ≤ bnd4 m ∧ w'.ownsRow w.heap.size 45 26 u (crossL A B).length (ccells (crossL A B))) ∨ (e = .returned (.tuple #[.slice none 0 0, .int .i64 4]) ∧ bnd4 m < (crossL A B).length)) ∧ Below w.heap.size w w' := by
  obtain ⟨oa, capa, rfl, _, _⟩ := hsa.slice
  obtain ⟨ob, capb, rfl, _, _⟩ := hsb.slice
  obtain ⟨na, hna⟩ : ∃ n, n = A.length := ⟨_, rfl⟩
  obtain ⟨nb, hnb⟩ : ∃ n, n = B.length := ⟨_, rfl⟩
  rw [← hna] at hsa hA ⊢
  rw [← hnb] at hsb hB ⊢
  have HNA : Hid (na = A.length) := hna
  have HNB : Hid (nb = B.length) := hnb
  have HSA : Hid (Sl w (.slice oa na capa) A) := hsa
  have HSB : Hid (Sl w (.slice ob nb capb) B) := hsb
  obtain ⟨q, hq⟩ : ∃ q, q = max m 0 := ⟨_, rfl⟩
  have HQ : Hid (q = max m 0) := hq
  obtain ⟨most, hmo⟩ : ∃ most, most = bnd4 m := ⟨_, rfl⟩
  have hmost : most ≤ 2048 := by rw [hmo]; exact bnd4_le m
  have HMO : Hid ((most : Int) = min q 2048) := by show _ = _; rw [hmo, hq]; exact bnd4_eq m
  rw [← hmo]
  have n0 := heap_new w (.cells #[] 45) _ rfl
  clear hsa hsb hna hnb hq hmo
  go_enter Try.func12, Try.ntmps12
  go_wp2_with (first
    | (refine wl_maxI rfl _ _ rfl m 0 q rfl rfl HQ.out ?_)
    | (refine wl_minI rfl _ _ rfl q 2048 (most : Int) rfl rfl HMO.out ?_))
  go_loopw [8, 9] (fun out i wr => ∃ k : Nat, k ≤ na ∧ i = .int .i64 (k : Int) ∧ (crossL (A.take k) B).length ≤ most ∧ wr.ownsRow w.heap.size 45 26 out (crossL (A.take k) B).length (ccells (crossL (A.take k) B)) ∧ Below w.heap.size w wr) (fun _ i _ => na - (intOf i).toNat)
  case atStart => exact ⟨0, Nat.zero_le _, rfl, Nat.zero_le _, ⟨rfl, Or.inr ⟨w.heap.size, 0, #[], rfl, Nat.le_refl _, n0, Nat.le_refl _, by decide, rfl, rfl⟩⟩, (Below.refl _ _).alloc (Nat.le_refl _) _⟩
  case round =>
    clear n0
    obtain ⟨k, hk, rfl, hle, hown, hb⟩ := hrel
    obtain ⟨wo, hwo⟩ : ∃ wo : World, wo = wr := ⟨_, rfl⟩
    rw [← hwo] at hown hb ⊢
    clear hwo wr
    by_cases hlt : k < na
    · obtain ⟨g, off, cur, t, fr, U, N, rfl, hg, hc, hAk, hU, hN⟩ := HSA.out.at k hlt
      have hUl := hU.1
      have hNl := hN.1
      have HU : Hid (Byt U ∧ Byt N) := ⟨hU, hN⟩
      have HG : Hid (w.heap[g]? = some (.cells cur t fr)) := hg
      have HC : Hid (∀ j, j < 26 → cur[off + k * 26 + j]? = (cv U N)[j]?) := hc
      have HT : Hid (crossL (A.take (k + 1)) B = crossL (A.take k) B ++ crossR (U, N) B) := crossL_take hAk
      have HPT : Hid (∀ j, (crossL (A.take k) B ++ crossR (U, N) (B.take j)).length ≤ (crossL A B).length) := cross_part hAk
      obtain ⟨X, hX⟩ : ∃ X, X = crossL (A.take k) B := ⟨_, rfl⟩
      rw [← hX] at hle hown HT HPT
      have OWN : Hid (wo.ownsRow w.heap.size 45 26 u8 X.length (ccells X)) := hown
      clear hg hc hAk hU hN hX hown
      go_wp2_with fail
      go_loopw [8, 10] (fun out i wr => ∃ j : Nat, j ≤ nb ∧ i = .int .i64 (j : Int) ∧ ∃ D, D = X ++ crossR (U, N) (B.take j) ∧ D.length ≤ most ∧ wr.ownsRow w.heap.size 45 26 out D.length (ccells D) ∧ Below w.heap.size w wr) (fun _ i _ => nb - (intOf i).toNat)
      case atStart => exact ⟨0, Nat.zero_le _, rfl, X, by simp [crossR], hle, OWN.out, hb⟩
      case round =>
        clear OWN hle hb
        obtain ⟨j, hj, rfl, D, hD, hle, hown, hb⟩ := hrel
        have HD : Hid (D = X ++ crossR (U, N) (B.take j)) := hD
        obtain ⟨o8, cap8, rfl⟩ := own_slice hown
        obtain ⟨nd, hnd⟩ : ∃ nd, nd = D.length := ⟨_, rfl⟩
        have HND : Hid (nd = D.length) := hnd
        rw [← hnd] at hown hle ⊢
        have OWN : Hid (wr.ownsRow w.heap.size 45 26 (.slice o8 nd cap8) nd (ccells D)) := hown
        clear hD hnd hown
        by_cases hjl : j < nb
        · obtain ⟨g2, off2, cur2, t2, fr2, U2, N2, rfl, hg2, hc2, hBj, hU2, hN2⟩ := HSB.out.at j hjl
          have hUl2 := hU2.1
          have hNl2 := hN2.1
          have hg1' : wr.heap[g]? = some (.cells cur t fr) := (hb.block g (Array.getElem?_eq_some_iff.1 HG.out).1).trans HG.out
          have hg2' : wr.heap[g2]? = some (.cells cur2 t2 fr2) := (hb.block g2 (Array.getElem?_eq_some_iff.1 hg2).1).trans hg2
          have HC2 : Hid (∀ i, i < 26 → cur2[off2 + j * 26 + i]? = (cv U2 N2)[i]?) := hc2
          have HS : Hid (crossR (U, N) (B.take (j + 1)) = crossR (U, N) (B.take j) ++ (if meets U N U2 N2 then [(meetV U N U2 N2, meetM N N2)] else [])) := crossR_take hBj
          obtain ⟨AV, AM, b, hA1, hA2, hAB, hbt⟩ : ∃ AV AM b, AV.length = 13 ∧ AM.length = 13 ∧ meetR U N U2 N2 = .tuple #[.agg (cv AV AM), .bool b] ∧ crossR (U, N) (B.take (j + 1)) = crossR (U, N) (B.take j) ++ (if b then [(AV, AM)] else []) := by
            cases h : meets U N U2 N2
            · exact ⟨Z, Z, false, Z_byt.1, Z_byt.1, meetR_no _ _ _ _ h, by simp [HS.out, h]⟩
            · exact ⟨_, _, true, (meetV_byt _ _ _ _).1, (meetM_byt _ _).1, meetR_yes _ _ _ _ h, by simp [HS.out, h]⟩
          have HBT : Hid (crossR (U, N) (B.take (j + 1)) = crossR (U, N) (B.take j) ++ (if b then [(AV, AM)] else [])) := hbt
          have D1 : Hid (∀ W, Calls Try.prog 18 #[.agg (cv U N), .agg (cv U2 N2)] W fun e w' => e = .returned (.tuple #[.agg (cv AV AM), .bool b]) ∧ Below W.heap.size W w') := by
            have := rmeet_any U N U2 N2 HU.out.1 HU.out.2 hU2 hN2; rwa [hAB] at this
          clear hg2 hc2 hBj hU2 hN2 hAB hbt HS
          go_wp2_with fail
          have ne1 := Later.ne wr
          refine region_cut (fun a a' w' => ∃ g11 y29 y30 y31 y32 y33 y34 y35 y36 y37 y38 y39 y40, a' = ((((((((((((((a.put (some 11) (.pointer (some ⟨g11, 0, none⟩))).put (some 12) (.bool b)).put (some 29) y29).put (some 30) y30).put (some 31) y31).put (some 32) y32).put (some 33) y33).put (some 34) y34).put (some 35) y35).put (some 36) y36).put (some 37) y37).put (some 38) y38).put (some 39) y39).put (some 40) y40) ∧ wr.heap.size ≤ g11 ∧ w'.heap[g11]? = some (.cells (cv AV AM) 45 (0, 0)) ∧ Below wr.heap.size wr w') ?_ ?_
          · refine region_begin 15 rfl (by kernel_rfl) ?_
            refine region_reads 0 8 7 rfl (by kernel_rfl) (by kernel_rfl) (by kernel_rfl) (by intro d v c a w h; exact absurd h.1 (by simp)) ⟨⟨wr.drew, (Below.refl _ _).drew⟩, rfl⟩ ?_
            simp only [List.drop_zero, List.take_succ_cons, List.take_zero]
            go_big_quiet_step (fail)
            go_big_quiet_step (fail)
            go_big_quiet_step (fail)
            refine qlSl rfl _ rfl g (off + k * 26) rfl cur t fr U N hUl hNl hg1' HC.out ?_
            simp only [Act.put, List.setIfInBounds_toArray, List.set_cons_succ, List.set_cons_zero]
            go_big_quiet_step (fail)
            go_big_quiet_step (fail)
            go_big_quiet_step (fail)
            refine qlSl rfl _ rfl g2 (off2 + j * 26) rfl cur2 t2 fr2 U2 N2 hUl2 hNl2 hg2' HC2.out ?_
            simp only [Act.put, List.setIfInBounds_toArray, List.set_cons_succ, List.set_cons_zero]
            refine wpQuiet_nil ?_
            refine wpAnyH_all (rs := [8, 12]) (by kernel_rfl) (by decide) ?_
            intro i hi
            simp only [List.mem_cons, List.not_mem_nil, or_false] at hi
            rcases hi with rfl | rfl
            · refine wpOp_call rfl rfl 18 #[.tmp 33, .tmp 37] (by intro b w; have hf := Try.func18; simp [go_sem]) #[.agg (cv U N), .agg (cv U2 N2)] rfl (fun v w' => v = .tuple #[.agg (cv AV AM), .bool b] ∧ Below wr.drew.heap.size wr.drew w') ((D1.out _).mono fun e w' h => ⟨_, h.1, rfl, h.2⟩) (some 38) rfl ?_
              rintro v w2 ⟨rfl, hb2⟩
              have hW2 : Below wr.heap.size wr w2 := (Below.refl _ _).drew.trans hb2
              refine ⟨⟨⟨w2, hW2⟩, rfl⟩, ?_⟩
              simp only [Act.put, List.setIfInBounds_toArray, List.set_cons_succ, List.set_cons_zero]
              refine region_reads 9 3 3 rfl (by kernel_rfl) (by kernel_rfl) (by kernel_rfl) (by intro d v c a w h; exact absurd h.1 (by simp)) ⟨⟨w2, hW2⟩, rfl⟩ ?_
              simp only [List.drop_succ_cons, List.drop_zero, List.take_succ_cons, List.take_zero]
              repeat go_big_quiet_step (fail)
              refine wpQuiet_nil ?_
              refine wpAnyH_all (rs := [12]) (by kernel_rfl) (by decide) ?_
              intro i hi
              obtain rfl := List.mem_singleton.1 hi
              refine wpOp_allocC rfl rfl rfl (some 11) rfl ?_
              refine ⟨⟨⟨w2.alloc _, hW2.alloc hW2.size _⟩, rfl⟩, ?_⟩
              simp only [Act.put, List.setIfInBounds_toArray, List.set_cons_succ, List.set_cons_zero]
              refine wpAnyH_all (rs := [13]) (by kernel_rfl) (by decide) ?_
              intro i hi
              obtain rfl := List.mem_singleton.1 hi
              refine wpOp_storeC rfl rfl _ _ rfl w2.heap.size AV AM rfl rfl _ (heap_new _ _ _ rfl) rfl hA1 hA2 none rfl ?_
              rw [setRow_new _ _ _ _ _ rfl]
              refine ⟨⟨⟨w2.alloc _, hW2.alloc hW2.size _⟩, rfl⟩, ?_⟩
              refine wpAnyH_all (rs := [14]) (by kernel_rfl) (by decide) ?_
              intro i hi
              obtain rfl := List.mem_singleton.1 hi
              refine wpOp_assign rfl rfl _ rfl (.bool b) rfl (some 12) rfl ?_
              refine ⟨⟨⟨w2.alloc _, hW2.alloc hW2.size _⟩, rfl⟩, ?_⟩
              refine wpAnyH_done (by kernel_rfl) ?_ _
              exact ⟨rfl, w2.heap.size, _, _, _, _, _, _, _, _, _, _, _, _, rfl, hW2.size, heap_new _ _ _ rfl, hW2.alloc hW2.size _⟩
            · refine wpOp_allocC rfl rfl rfl (some 11) rfl ?_
              have hWA : Below wr.heap.size wr (wr.drew.alloc (.cells zeroC 45)) := (Below.refl _ _).drew.alloc (Nat.le_refl _) _
              refine ⟨⟨⟨_, hWA⟩, rfl⟩, ?_⟩
              simp only [Act.put, List.setIfInBounds_toArray, List.set_cons_succ, List.set_cons_zero]
              refine wpAnyH_all (rs := [8]) (by kernel_rfl) (by decide) ?_
              intro i hi
              obtain rfl := List.mem_singleton.1 hi
              refine wpOp_call rfl rfl 18 #[.tmp 33, .tmp 37] (by intro b w; have hf := Try.func18; simp [go_sem]) #[.agg (cv U N), .agg (cv U2 N2)] rfl (fun v w' => v = .tuple #[.agg (cv AV AM), .bool b] ∧ Below (wr.drew.alloc (.cells zeroC 45)).heap.size (wr.drew.alloc (.cells zeroC 45)) w') ((D1.out _).mono fun e w' h => ⟨_, h.1, rfl, h.2⟩) (some 38) rfl ?_
              rintro v w2 ⟨rfl, hb2⟩
              have hW2 : Below wr.heap.size wr w2 := hWA.trans (hb2.mono hWA.size)
              have hgA : w2.heap[wr.heap.size]? = some (.cells zeroC 45 (0, 0)) := by rw [hb2.block _ (by simp)]; exact heap_new _ _ _ rfl
              refine ⟨⟨⟨w2, hW2⟩, rfl⟩, ?_⟩
              simp only [Act.put, List.setIfInBounds_toArray, List.set_cons_succ, List.set_cons_zero]
              refine region_reads 9 3 2 rfl (by kernel_rfl) (by kernel_rfl) (by kernel_rfl) (by intro d v c a w h; exact absurd h.1 (by simp)) ⟨⟨w2, hW2⟩, rfl⟩ ?_
              simp only [List.drop_succ_cons, List.drop_zero, List.take_succ_cons, List.take_zero]
              repeat go_big_quiet_step (fail)
              refine wpQuiet_nil ?_
              refine wpAnyH_all (rs := [13]) (by kernel_rfl) (by decide) ?_
              intro i hi
              obtain rfl := List.mem_singleton.1 hi
              refine wpOp_storeC rfl rfl _ _ rfl wr.heap.size AV AM rfl rfl _ hgA rfl hA1 hA2 none rfl ?_
              refine ⟨⟨⟨_, below_setRow hW2 (Nat.le_refl _) _⟩, rfl⟩, ?_⟩
              refine wpAnyH_all (rs := [14]) (by kernel_rfl) (by decide) ?_
              intro i hi
              obtain rfl := List.mem_singleton.1 hi
              refine wpOp_assign rfl rfl _ rfl (.bool b) rfl (some 12) rfl ?_
              refine ⟨⟨⟨_, below_setRow hW2 (Nat.le_refl _) _⟩, rfl⟩, ?_⟩
              refine wpAnyH_done (by kernel_rfl) ?_ _
              exact ⟨rfl, wr.heap.size, _, _, _, _, _, _, _, _, _, _, _, _, rfl, Nat.le_refl _, setRow_heap _ _ _ _ _ _ hgA, below_setRow hW2 (Nat.le_refl _) _⟩
          · rintro a' w' ⟨g11, y29, y30, y31, y32, y33, y34, y35, y36, y37, y38, y39, y40, rfl, hg11, hc11, hbw⟩
            simp only [Act.put, List.setIfInBounds_toArray, List.set_cons_succ, List.set_cons_zero]
            have B2 := hb.trans (hbw.mono hb.size)
            have OWN2 : Hid (w'.ownsRow w.heap.size 45 26 (.slice o8 nd cap8) nd (ccells D)) := own_below OWN.out hbw
            clear hb hbw hg1' hg2' D1 ne1 OWN
            cases b
            · have HDN : Hid (D = X ++ crossR (U, N) (B.take (j + 1))) := by
                show _ = _
                rw [HBT.out, HD.out]; simp
              go_wp2_with fail
              go_roundw
              case rel => exact ⟨j + 1, by omega, by go_num, D, HDN.out, by rw [← HND.out]; exact hle, by rw [← HND.out]; exact OWN2.out, B2⟩
              case measure => simp [intOf]; omega
            · have HDN : Hid (D ++ [(AV, AM)] = X ++ crossR (U, N) (B.take (j + 1))) := by
                show _ = _
                rw [HBT.out, HD.out]; simp
              have HP2 : Hid ((D ++ [(AV, AM)]).length ≤ (crossL A B).length) := by
                show _ ≤ _
                rw [HDN.out]; exact HPT.out (j + 1)
              go_wp2_with (first
                | (refine wl_loadC rfl _ rfl g11 rfl AV AM hc11 hA1 hA2 ?_)
                | (refine wl_build1 rfl _ rfl AV AM hA1 hA2 rfl ?_)
                | (at_builtin; refine of_stopped ?_))
              unfold Stopped
              have c5 := heap_new w' (.cells (cv AV AM) 45) _ rfl
              have hz2 := B2.size
              have B5 := B2.alloc B2.size (.cells (cv AV AM) 45)
              have OWN5 : Hid ((w'.alloc (.cells (cv AV AM) 45)).ownsRow w.heap.size 45 26 (.slice o8 nd cap8) D.length (ccells D)) := by
                have := OWN2.out.alloc (.cells (cv AV AM) 45)
                rw [HND.out] at this ⊢
                exact this
              refine wl_append1 rfl _ _ rfl w.heap.size _ D AV AM hA1 hA2 rfl OWN5.out _ 1 rfl c5 (by rw [← HND.out]; omega) (by simp; omega) ?_
              intro v' w2 hown2 hgr hat
              have B6 : Below w.heap.size w w2 := B5.grown hgr (by simp; omega) (fun q hq => (OWN5.out.lt q hq).1)
              obtain ⟨o9, cap9, rfl⟩ := own_slice hown2
              obtain ⟨n9, hn9⟩ : ∃ n9, n9 = (D ++ [(AV, AM)]).length := ⟨_, rfl⟩
              have HN9 : Hid (n9 = (D ++ [(AV, AM)]).length) := hn9
              have hn9' : n9 = nd + 1 := by rw [hn9, List.length_append, ← HND.out]; rfl
              rw [← hn9] at hown2 ⊢
              have OWN6 : Hid (w2.ownsRow w.heap.size 45 26 (.slice o9 n9 cap9) n9 (ccells (D ++ [(AV, AM)]))) := hown2
              simp only [Act.put, List.setIfInBounds_toArray, List.set_cons_succ, List.set_cons_zero]
              have hn91 : n9 ≤ 2049 := by omega
              have HN91 : Hid (n9 = nd + 1) := hn9'
              clear hown2 hgr hat c5 B5 OWN5 OWN2 hn9 hn9' hc11 B2
              by_cases hgt : most < n9
              · go_wp2_with fail
                go_ret2
                refine ⟨.inr ⟨rfl, ?_⟩, B6⟩
                have := HP2.out
                rw [← HN9.out] at this
                omega
              · go_wp2_with fail
                go_roundw
                case rel => exact ⟨j + 1, by omega, by go_num, D ++ [(AV, AM)], HDN.out, by rw [← HN9.out]; omega, by rw [← HN9.out]; exact OWN6.out, B6⟩
                case measure => simp [intOf]; omega
        · obtain rfl : j = nb := by omega
          have HF : Hid (D = crossL (A.take (k + 1)) B) := by
            show _ = _
            rw [HT.out, HD.out, HNB.out, List.take_length]
          go_wp2_with fail
          go_roundw
          case rel => exact ⟨k + 1, by omega, by go_num, by rw [← HF.out, ← HND.out]; exact hle, by rw [← HF.out, ← HND.out]; exact OWN.out, hb⟩
          case measure => simp [intOf]; omega
    · obtain rfl : k = na := by omega
      have HE : Hid (crossL (A.take k) B = crossL A B) := by
        show _ = _
        rw [HNA.out, List.take_length]
      rw [HE.out] at hle hown
      have OWN : Hid (wo.ownsRow w.heap.size 45 26 u8 (crossL A B).length (ccells (crossL A B))) := hown
      have HLE : Hid ((crossL A B).length ≤ most) := hle
      clear hown hle HE
      go_wp2_with fail
      go_ret2
      exact ⟨.inl ⟨u8, rfl, HLE.out, OWN.out⟩, hb⟩
end Go.Proofs.Ytplnlmkmaapbaaa
