import Derived.Test.YtjlghkiplapodaaJ8
import Derived.Maps.AppendAt
import Derived.Test.YtjlghkiplapodaaJ5
namespace Go.Proofs.Ytjlghkiplapodaa
open Go Go.RowKit

theorem Sl.grown {w w' : World} {u : Value} {E : List (List Int × List Int)} {row : Option Nat} (h : Sl w u E) (hg : w.grownBy w' row) (hne : ∀ k, row = some k → u.ownBlock ≠ some k) : Sl w' u E := by
  obtain ⟨h0, o, cap, rfl, h1, h2, h3⟩ := h
  refine ⟨h0, o, cap, rfl, h1, h2, fun i hi => ?_⟩
  obtain ⟨g, off, cur, t, fr, rfl, h5, h6⟩ := h3 i hi
  refine ⟨g, off, cur, t, fr, rfl, (hg.block g (Array.getElem?_eq_some_iff.1 h5).1 (fun e => hne g e.symm rfl)).trans h5, h6⟩

set_option maxHeartbeats 8000000 in
theorem rleft_any (V M : List Int) (hV : Byt V) (hM : Byt M) (L : List (List Int × List Int)) (hn : L.length ≤ 1000000) (m : Int) (v : Value) (w : World) (hs : Sl w v L) :
    Calls Try.prog 16 #[.agg (cv V M), v, .int .i64 m] w fun e w' => ((∃ R u, leftC V M L (bnd m) = some R ∧ R.length ≤ 1000 ∧ e = .returned (.tuple #[u, .int .i64 0]) ∧ Sl w' u R) ∨ (leftC V M L (bnd m) = none ∧ e = .returned (.tuple #[.slice none 0 0, .int .i64 4]))) ∧ Below w.heap.size w w' := by
  obtain ⟨o, cap, rfl, _, _⟩ := hs.slice
  obtain ⟨n, hne⟩ : ∃ n, n = L.length := ⟨_, rfl⟩
  rw [← hne] at hs hn ⊢
  have HN : Hid (n = L.length) := hne
  have HS : Hid (Sl w (.slice o n cap) L) := hs
  have hVl := hV.1
  have hMl := hM.1
  have hCl := (can_byt V M).1
  obtain ⟨most, hmo⟩ : ∃ most, most = bnd m := ⟨_, rfl⟩
  have hmost : most ≤ 1000 := by rw [hmo]; exact bnd_le m
  obtain ⟨R, hR⟩ : ∃ R, R = leftC V M L most := ⟨_, rfl⟩
  have C1 : Hid (∀ W, Calls Try.prog 32 #[.int .i64 m] W fun e w' => e = .returned (.int .i64 (most : Int)) ∧ Below W.heap.size W w') := by rw [hmo]; exact rbound_any m
  have C2 : Hid (∀ W, Calls Try.prog 33 #[.agg (cv V M)] W fun e w' => e = .returned (.agg (cv (can V M) M)) ∧ Below W.heap.size W w') := rcanon_any V M hV hM
  have HCB : Hid (Byt (can V M) ∧ Byt M) := ⟨can_byt V M, hM⟩
  have HR : Hid (R = if most < 1 then none else leftGo most [(can V M, M)] L) := hR
  rw [← hmo, ← hR]
  clear hs hne hV hM hmo hR
  go_enter Try.func16, Try.ntmps16
  go_wp2_with fail
  refine (C1.out _).mono ?_
  rintro e w1 ⟨rfl, hb1⟩
  have g0 : w1.heap[w.heap.size]? = some (.cells (cv V M) 30 (0, 0)) := by rw [hb1.block _ (by simp)]; exact heap_new _ _ _ rfl
  have B1 : Below w.heap.size w w1 := ((Below.refl _ _).alloc (Nat.le_refl _) _).trans (hb1.mono (by simp))
  clear hb1 C1
  go_wp2_with (first
    | (refine wl_loadC rfl _ rfl w.heap.size rfl V M g0 hVl hMl ?_))
  refine (C2.out _).mono ?_
  rintro e w2 ⟨rfl, hb2⟩
  have B2 := B1.trans (hb2.mono B1.size)
  have B3 := B2.alloc B2.size (.cells (cv (can V M) M) 30)
  clear hb2 C2 B1 g0
  by_cases hm1 : most < 1
  · go_wp2_with (first
      | (refine wl_build1 rfl _ rfl (can V M) M hCl hMl rfl ?_))
    go_ret2
    refine ⟨.inr ⟨?_, rfl⟩, B3⟩
    rw [HR.out, if_pos hm1]
  · have HSL : Hid (Sl (w2.alloc (.cells (cv (can V M) M) 30)) (.slice (some ⟨w2.heap.size, 0, none⟩) 1 1) [(can V M, M)]) := sl_one w2 _ _ HCB.out.1 HCB.out.2
    have HR2 : Hid (leftGo most [(can V M, M)] L = R) := by show _ = _; rw [HR.out, if_neg hm1]
    clear HR
    go_wp2_with (first
      | (refine wl_build1 rfl _ rfl (can V M) M hCl hMl rfl ?_))
    go_loopw [8, 9] (fun pc i wr => ∃ k : Nat, k ≤ n ∧ i = .int .i64 k ∧ ∃ P, P.length ≤ most ∧ leftGo most P (L.drop k) = R ∧ Sl wr pc P ∧ Below w.heap.size w wr) (fun _ i _ => n - (intOf i).toNat)
    case atStart => exact ⟨0, Nat.zero_le _, rfl, _, by simp; omega, HR2.out, HSL.out, B3⟩
    case round =>
      clear HSL HR2 B3 B2
      obtain ⟨k, hk, rfl, P, hP, hgo, hsl, hb⟩ := hrel
      obtain ⟨wo, hwo⟩ : ∃ wo : World, wo = wr := ⟨_, rfl⟩
      rw [← hwo] at hsl hb ⊢
      clear hwo wr
      have HGO : Hid (leftGo most P (L.drop k) = R) := hgo
      have HSL : Hid (Sl wo u8 P) := hsl
      clear hgo
      by_cases hlt : k < n
      · obtain ⟨g, off, cur, t, fr, U, N, rfl, hg, hc, hLk, hU, hN⟩ := HS.out.at k hlt
        have hUl := hU.1
        have hNl := hN.1
        have hg' : wo.heap[g]? = some (.cells cur t fr) := (hb.block g (Array.getElem?_eq_some_iff.1 hg).1).trans hg
        have HC : Hid (∀ j, j < 26 → cur[off + k * 26 + j]? = (cv U N)[j]?) := hc
        have CM : Hid (∀ U2 N2 : List Int, Byt U2 → Byt N2 → ∀ W, Calls Try.prog 34 #[.agg (cv U2 N2), .agg (cv U N)] W fun e w' => ∃ v, e = .returned v ∧ w'.ownsRow W.heap.size 30 26 v (minusC U2 N2 U N).length (ccells (minusC U2 N2 U N)) ∧ Below W.heap.size W w') := fun U2 N2 h1 h2 => rminus_any U2 N2 U N h1 h2 hU hN
        have HST : Hid (leftGo most P (L.drop k) = if most < (minusL P (U, N)).length then none else leftGo most (minusL P (U, N)) (L.drop (k + 1))) := leftGo_cons hLk
        obtain ⟨pn, hpn⟩ : ∃ pn, pn = P.length := ⟨_, rfl⟩
        have HPN : Hid (pn = P.length) := hpn
        obtain ⟨po, pcap, rfl, _, _⟩ := hsl.slice
        rw [← hpn] at hP HSL ⊢
        clear hg hc hLk hU hN hsl hpn
        go_wp2_with fail
        have own0 : (wo.alloc (.cells #[] 30)).ownsRow wo.heap.size 30 26 (.slice (some ⟨wo.heap.size, 0, none⟩) 0 0) 0 [] := ⟨rfl, Or.inr ⟨wo.heap.size, 0, #[], rfl, Nat.le_refl _, heap_new _ _ _ rfl, Nat.le_refl _, by decide, rfl, rfl⟩⟩
        go_loopw [10, 11] (fun nx i wr => ∃ j : Nat, j ≤ pn ∧ i = .int .i64 j ∧ (minusL (P.take j) (U, N)).length ≤ most ∧ wr.ownsRow wo.heap.size 30 26 nx (minusL (P.take j) (U, N)).length (ccells (minusL (P.take j) (U, N))) ∧ Below wo.heap.size wo wr) (fun _ i _ => pn - (intOf i).toNat)
        case atStart => exact ⟨0, Nat.zero_le _, rfl, Nat.zero_le _, own0, (Below.refl _ _).alloc (Nat.le_refl _) _⟩
        case round =>
          clear own0
          obtain ⟨j, hj, rfl, hle, hown, hbo⟩ := hrel
          by_cases hjl : j < pn
          · obtain ⟨g2, off2, cur2, t2, fr2, U2, N2, rfl, hg2, hc2, hPj, hU2, hN2⟩ := HSL.out.at j hjl
            have hUl2 := hU2.1
            have hNl2 := hN2.1
            have D1 : Hid (∀ W, Calls Try.prog 34 #[.agg (cv U2 N2), .agg (cv U N)] W fun e w' => ∃ v, e = .returned v ∧ w'.ownsRow W.heap.size 30 26 v (minusC U2 N2 U N).length (ccells (minusC U2 N2 U N)) ∧ Below W.heap.size W w') := CM.out U2 N2 hU2 hN2
            have h1g : wr.heap[g]? = some (.cells cur t fr) := (hbo.block g (Array.getElem?_eq_some_iff.1 hg').1).trans hg'
            have h2g : wr.heap[g2]? = some (.cells cur2 t2 fr2) := (hbo.block g2 (Array.getElem?_eq_some_iff.1 hg2).1).trans hg2
            have HC2 : Hid (∀ i, i < 26 → cur2[off2 + j * 26 + i]? = (cv U2 N2)[i]?) := hc2
            have HT : Hid (minusL (P.take (j + 1)) (U, N) = minusL (P.take j) (U, N) ++ minusC U2 N2 U N) := minusL_take hPj
            have HBD : Hid (Byts (minusC U2 N2 U N)) := byts_minus U2 N2 U N hN2
            have hE : (minusC U2 N2 U N).length ≤ 104 := len_minus U2 N2 U N
            obtain ⟨D, hD⟩ : ∃ D, D = minusL (P.take j) (U, N) := ⟨_, rfl⟩
            obtain ⟨E, hEe⟩ : ∃ E, E = minusC U2 N2 U N := ⟨_, rfl⟩
            rw [← hD] at hle hown HT
            rw [← hEe] at D1 HT HBD hE
            have OWN : Hid (wr.ownsRow wo.heap.size 30 26 u10 D.length (ccells D)) := hown
            have zo : wo.heap.size ≤ wr.heap.size := hbo.size
            clear hg2 hc2 hPj hU2 hN2 hD hEe hown
            go_wp2_with fail
            have ne1 := Later.ne wr
            refine region_cut (fun a a' w' => ∃ u y36 y37 y38 y39 y40 y41 y42 y43 y44, a' = ((((((((((a.put (some 12) u).put (some 36) y36).put (some 37) y37).put (some 38) y38).put (some 39) y39).put (some 40) y40).put (some 41) y41).put (some 42) y42).put (some 43) y43).put (some 44) y44) ∧ w'.ownsRow wr.heap.size 30 26 u E.length (ccells E) ∧ Below wr.heap.size wr w') ?_ ?_
            · refine region_begin 10 rfl (by kernel_rfl) ?_
              refine region_reads 0 8 2 rfl (by kernel_rfl) (by kernel_rfl) (by kernel_rfl) (by intro d v c a w h; exact absurd h.1 (by simp)) ⟨⟨wr.drew, (Below.refl _ _).drew⟩, rfl⟩ ?_
              simp only [List.drop_zero, List.take_succ_cons, List.take_zero]
              go_big_quiet_step (fail)
              go_big_quiet_step (fail)
              go_big_quiet_step (fail)
              refine qlSl rfl _ rfl g2 (off2 + j * 26) rfl cur2 t2 fr2 U2 N2 hUl2 hNl2 h2g HC2.out ?_
              simp only [Act.put, List.setIfInBounds_toArray, List.set_cons_succ, List.set_cons_zero]
              go_big_quiet_step (fail)
              go_big_quiet_step (fail)
              go_big_quiet_step (fail)
              refine qlSl rfl _ rfl g (off + k * 26) rfl cur t fr U N hUl hNl h1g HC.out ?_
              simp only [Act.put, List.setIfInBounds_toArray, List.set_cons_succ, List.set_cons_zero]
              refine wpQuiet_nil ?_
              refine wpAnyH_all (rs := [8]) (by kernel_rfl) (by decide) ?_
              intro i hi
              obtain rfl := List.mem_singleton.1 hi
              refine wpOp_call rfl rfl 34 #[.tmp 39, .tmp 43] (by intro b w; have hf := Try.func34; simp [go_sem]) #[.agg (cv U2 N2), .agg (cv U N)] rfl (fun v w' => w'.ownsRow wr.heap.size 30 26 v E.length (ccells E) ∧ Below wr.heap.size wr w') ((D1.out _).mono fun e w' ⟨v, h1, h2, h3⟩ => ⟨v, h1, h2, (Below.refl _ _).drew.trans h3⟩) (some 44) rfl ?_
              rintro v w4 ⟨ho4, hb4⟩
              refine ⟨⟨⟨w4, hb4⟩, rfl⟩, ?_⟩
              simp only [Act.put, List.setIfInBounds_toArray, List.set_cons_succ, List.set_cons_zero]
              refine wpAnyH_all (rs := [9]) (by kernel_rfl) (by decide) ?_
              intro i hi
              obtain rfl := List.mem_singleton.1 hi
              refine wpOp_assign rfl rfl _ rfl v rfl (some 12) rfl ?_
              refine ⟨⟨⟨w4, hb4⟩, rfl⟩, ?_⟩
              refine wpAnyH_done (by kernel_rfl) ?_ _
              exact ⟨rfl, _, _, _, _, _, _, _, _, _, _, rfl, ho4, hb4⟩
            · rintro a' w4 ⟨u, y36, y37, y38, y39, y40, y41, y42, y43, y44, rfl, ho4, hb4⟩
              simp only [Act.put, List.setIfInBounds_toArray, List.set_cons_succ, List.set_cons_zero]
              have B4 : Below wo.heap.size wo w4 := hbo.trans (hb4.mono hbo.size)
              have OWN4 : Hid (w4.ownsRow wo.heap.size 30 26 u10 D.length (ccells D)) := own_below OWN.out hb4
              have HNE : Hid (∀ q, u10.ownBlock = some q → u.ownBlock ≠ some q) := fun q hq h => by
                have h1 := (OWN.out.lt q hq).2
                have h2 := (ho4.lt q h).1
                omega
              obtain ⟨en, hen⟩ : ∃ en, en = E.length := ⟨_, rfl⟩
              have HEN : Hid (en = E.length) := hen
              have HU : Hid (Sl w4 u E) := sl_of ho4 HBD.out
              obtain ⟨uo, ucap, rfl⟩ := own_slice ho4
              rw [← hen] at HU hE HNE ⊢
              clear hen ho4 hb4 hbo OWN h1g h2g D1 ne1
              go_wp2_with fail
              go_loopw [10, 13] (fun nx i wr => ∃ x : Nat, x ≤ en ∧ i = .int .i64 x ∧ wr.ownsRow wo.heap.size 30 26 nx (D ++ E.take x).length (ccells (D ++ E.take x)) ∧ Sl wr (.slice uo en ucap) E ∧ (∀ q, nx.ownBlock = some q → (Value.slice uo en ucap).ownBlock ≠ some q) ∧ Below wo.heap.size wo wr) (fun _ i _ => en - (intOf i).toNat)
              case atStart => exact ⟨0, Nat.zero_le _, rfl, by simpa using OWN4.out, HU.out, HNE.out, B4⟩
              case round =>
                clear B4 HU HNE OWN4
                obtain ⟨x, hx, rfl, hown, hsu, hne, hbo⟩ := hrel
                have HSU : Hid (Sl wr (.slice uo en ucap) E) := hsu
                have zo2 : wo.heap.size ≤ wr.heap.size := hbo.size
                by_cases hxl : x < en
                · obtain ⟨g3, off3, cur3, t3, fr3, U3, N3, rfl, hg3, hc3, hEx, hU3, hN3⟩ := HSU.out.at x hxl
                  have hUl3 := hU3.1
                  have hNl3 := hN3.1
                  have HC3 : Hid (∀ i, i < 26 → cur3[off3 + x * 26 + i]? = (cv U3 N3)[i]?) := hc3
                  have HTK : Hid (E.take (x + 1) = E.take x ++ [(U3, N3)]) := by show _ = _; rw [List.take_add_one, hEx]; rfl
                  have hdl : (D ++ E.take x).length ≤ 1104 := by rw [List.length_append, List.length_take]; omega
                  obtain ⟨DE, hDE⟩ : ∃ DE, DE = D ++ E.take x := ⟨_, rfl⟩
                  have HDE : Hid (DE = D ++ E.take x) := hDE
                  rw [← hDE] at hown hdl
                  have OWN : Hid (wr.ownsRow wo.heap.size 30 26 u10 DE.length (ccells DE)) := hown
                  have HNE : Hid (∀ q, u10.ownBlock = some q → (Value.slice (some ⟨g3, off3, none⟩) en ucap).ownBlock ≠ some q) := hne
                  have hcl : (cv U3 N3).toList.length = 1 * 26 := by rw [Array.length_toList, cv_size _ _ hUl3 hNl3]
                  have hco : ∀ u ∈ (cv U3 N3).toList, u.oneCell' = true := fun u hu => (Array.all_eq_true_iff_forall_mem.1 (cv_one U3 N3)) u (by simpa using hu)
                  obtain ⟨i0, hi0, hz0', hz1', hz2'⟩ := infoC
                  clear hc3 hEx hU3 hN3 hDE hown hne hsu
                  go_wp2_with (first
                    | (refine wl_loadCat rfl _ rfl g3 (off3 + x * 26) rfl cur3 t3 fr3 U3 N3 hUl3 hNl3 hg3 HC3.out ?_)
                    | (refine wl_build1 rfl _ rfl U3 N3 hUl3 hNl3 rfl ?_)
                    | (at_builtin; refine of_stopped ?_))
                  unfold Stopped
                  refine wpList_append_own_at _ rfl _ _ 22 rfl wo.heap.size 30 i0 (.agg zeroC) 26 26 Try.underlying22 hi0 hz0' hz1' hz2' rfl (by decide) _ _ _ rfl (OWN.out.alloc _) ⟨wr.heap.size, 0, none⟩ 1 1 (cv U3 N3).toList rfl hcl (cells_new wr _ _) hco (by unfold maxLen; omega) (by omega) (by simp; omega) ?_
                  intro v' w7 hown' hgrow7 hnil7 hat7
                  have B7 : Below wo.heap.size wo w7 := (hbo.alloc zo2 _).grown hgrow7 (by simp; omega) (fun q hq => (OWN.out.lt q hq).1)
                  have HS7 : Hid (Sl w7 (.slice (some ⟨g3, off3, none⟩) en ucap) E) := (HSU.out.below ((Below.refl _ _).alloc (Nat.le_refl _) (.cells (cv U3 N3) 30))).grown hgrow7 HNE.out
                  have hz3 := (Array.getElem?_eq_some_iff.1 hg3).1
                  have HNE7 : Hid (∀ q, v'.ownBlock = some q → (Value.slice (some ⟨g3, off3, none⟩) en ucap).ownBlock ≠ some q) := fun q hq => by
                    rcases hat7 with h | h
                    · exact HNE.out q (h.symm.trans hq)
                    · rw [h] at hq
                      simp only [Option.some.injEq, World.size_alloc] at hq
                      intro h2
                      simp only [Value.ownBlock, Option.some.injEq] at h2
                      omega
                  have OWN7 : Hid (w7.ownsRow wo.heap.size 30 26 v' (D ++ E.take (x + 1)).length (ccells (D ++ E.take (x + 1)))) := by
                    show World.ownsRow _ _ _ _ _ _ _
                    rw [HTK.out, ← List.append_assoc, ← HDE.out, ccells_append, ccells_one, List.length_append]; exact hown'
                  clear hown' hgrow7 hnil7 hat7 hcl hco hi0 hz0' hz1' hz2' hg3
                  simp only [Act.put, List.setIfInBounds_toArray, List.set_cons_succ, List.set_cons_zero]
                  go_wp2_with fail
                  go_roundw
                  case rel => exact ⟨x + 1, by omega, by go_num, OWN7.out, HS7.out, HNE7.out, B7⟩
                  case measure => simp [intOf]; omega
                · obtain rfl : x = en := by omega
                  have HTE : Hid (D ++ E.take x = minusL (P.take (j + 1)) (U, N)) := by show _ = _; rw [HT.out, HEN.out, List.take_length]
                  rw [HTE.out] at hown
                  have hdl : (minusL (P.take (j + 1)) (U, N)).length ≤ 1104 := by rw [HT.out, List.length_append, ← HEN.out]; omega
                  obtain ⟨o2, cap2, rfl⟩ := own_slice hown
                  obtain ⟨n2, hn2⟩ : ∃ n2, n2 = (minusL (P.take (j + 1)) (U, N)).length := ⟨_, rfl⟩
                  have HN2 : Hid (n2 = (minusL (P.take (j + 1)) (U, N)).length) := hn2
                  rw [← hn2] at hown hdl ⊢
                  have OWN : Hid (wr.ownsRow wo.heap.size 30 26 (.slice o2 n2 cap2) n2 (ccells (minusL (P.take (j + 1)) (U, N)))) := hown
                  have B5 := hb.trans (hbo.mono hb.size)
                  clear hown hn2 hsu hne HTE
                  by_cases hgt : most < n2
                  · go_wp2_with fail
                    go_ret2
                    refine ⟨.inr ⟨?_, rfl⟩, B5⟩
                    have h1 := HGO.out
                    have h2 := minusL_le P (U, N) (j + 1)
                    have h3 := HN2.out
                    rw [HST.out, if_pos (by omega)] at h1
                    exact h1.symm
                  · go_wp2_with fail
                    go_roundw
                    case rel =>
                      refine ⟨j + 1, by omega, by go_num, ?_, ?_, hbo⟩
                      · rw [← HN2.out]; omega
                      · rw [← HN2.out]; exact OWN.out
                    case measure => simp [intOf]; omega
          · obtain rfl : j = pn := by omega
            have OWN : Hid (wr.ownsRow wo.heap.size 30 26 u10 (minusL (P.take j) (U, N)).length (ccells (minusL (P.take j) (U, N)))) := hown
            have HLE : Hid ((minusL (P.take j) (U, N)).length ≤ most) := hle
            have HT : Hid (P.take j = P) := by show _ = _; rw [HPN.out, List.take_length]
            clear hown hle
            go_wp2_with fail
            go_roundw
            case rel =>
              have h1 := OWN.out
              have h2 := HLE.out
              rw [HT.out] at h1 h2
              refine ⟨k + 1, by omega, by go_num, _, h2, ?_, sl_of h1 (byts_minusL P HSL.out.byts (U, N)), hb.trans (hbo.mono hb.size)⟩
              have := HGO.out
              rwa [HST.out, if_neg (Nat.not_lt.2 h2)] at this
            case measure => simp [intOf]; omega
      · obtain rfl : k = n := by omega
        go_wp2_with fail
        go_ret2
        refine ⟨.inl ⟨P, _, ?_, by omega, rfl, HSL.out⟩, hb⟩
        have := HGO.out
        rw [HN.out, List.drop_length] at this
        exact this.symm
end Go.Proofs.Ytjlghkiplapodaa
namespace Go.Proofs.Ytjlghkiplapodaa
open Go Go.RowKit

theorem ret_pair {a b : Bool} {x y : Int} (h : a = b) (h2 : x = y) : Ending.returned (.tuple #[.bool a, .int .i64 x]) = .returned (.tuple #[.bool b, .int .i64 y]) := by rw [h, h2]
def covB : Option (List (List Int × List Int)) → Bool
  | some [] => true
  | _ => false
def errI : Option (List (List Int × List Int)) → Int
  | some _ => 0
  | none => 4

theorem left_some {V M : List Int} (hV : Byt V) (hM : Byt M) {L : List (List Int × List Int)} (hn : L.length ≤ 1000000) {m : Int} {R : List (List Int × List Int)} (h : leftC V M L (bnd m) = some R) (v : Value) (w : World) (hs : Sl w v L) :
    Calls Try.prog 15 #[.agg (cv V M), v, .int .i64 m] w fun e w' => ∃ u, e = .returned (.tuple #[u, .int .i64 0]) ∧ Sl w' u R ∧ R.length ≤ 1000 ∧ Below w.heap.size w w' := by
  refine (left_any V M hV hM L hn m v w hs).mono ?_
  rintro e w' ⟨⟨R', u, h1, h2, h3, h4⟩ | ⟨h1, _⟩, hb⟩
  · rw [h] at h1
    obtain rfl := Option.some.inj h1
    exact ⟨u, h3, h4, h2, hb⟩
  · rw [h] at h1; cases h1
theorem left_none {V M : List Int} (hV : Byt V) (hM : Byt M) {L : List (List Int × List Int)} (hn : L.length ≤ 1000000) {m : Int} (h : leftC V M L (bnd m) = none) (v : Value) (w : World) (hs : Sl w v L) :
    Calls Try.prog 15 #[.agg (cv V M), v, .int .i64 m] w fun e w' => e = .returned (.tuple #[.slice none 0 0, .int .i64 4]) ∧ Below w.heap.size w w' := by
  refine (left_any V M hV hM L hn m v w hs).mono ?_
  rintro e w' ⟨⟨R', u, h1, h2, h3, h4⟩ | ⟨_, h1⟩, hb⟩
  · rw [h] at h1; cases h1
  · exact ⟨h1, hb⟩
theorem rleft_some {V M : List Int} (hV : Byt V) (hM : Byt M) {L : List (List Int × List Int)} (hn : L.length ≤ 1000000) {m : Int} {R : List (List Int × List Int)} (h : leftC V M L (bnd m) = some R) (v : Value) (w : World) (hs : Sl w v L) :
    Calls Try.prog 16 #[.agg (cv V M), v, .int .i64 m] w fun e w' => ∃ u, e = .returned (.tuple #[u, .int .i64 0]) ∧ Sl w' u R ∧ R.length ≤ 1000 ∧ Below w.heap.size w w' := by
  refine (rleft_any V M hV hM L hn m v w hs).mono ?_
  rintro e w' ⟨⟨R', u, h1, h2, h3, h4⟩ | ⟨h1, _⟩, hb⟩
  · rw [h] at h1
    obtain rfl := Option.some.inj h1
    exact ⟨u, h3, h4, h2, hb⟩
  · rw [h] at h1; cases h1
theorem rleft_none {V M : List Int} (hV : Byt V) (hM : Byt M) {L : List (List Int × List Int)} (hn : L.length ≤ 1000000) {m : Int} (h : leftC V M L (bnd m) = none) (v : Value) (w : World) (hs : Sl w v L) :
    Calls Try.prog 16 #[.agg (cv V M), v, .int .i64 m] w fun e w' => e = .returned (.tuple #[.slice none 0 0, .int .i64 4]) ∧ Below w.heap.size w w' := by
  refine (rleft_any V M hV hM L hn m v w hs).mono ?_
  rintro e w' ⟨⟨R', u, h1, h2, h3, h4⟩ | ⟨_, h1⟩, hb⟩
  · rw [h] at h1; cases h1
  · exact ⟨h1, hb⟩

set_option maxHeartbeats 2000000 in
theorem covers_any (V M : List Int) (hV : Byt V) (hM : Byt M) (L : List (List Int × List Int)) (hn : L.length ≤ 1000000) (m : Int) (v : Value) (w : World) (hs : Sl w v L) :
    Calls Try.prog 18 #[v, .agg (cv V M), .int .i64 m] w fun e w' => e = .returned (.tuple #[.bool (covB (leftC V M L (bnd m))), .int .i64 (errI (leftC V M L (bnd m)))]) ∧ Below w.heap.size w w' := by
  have hVl := hV.1
  have hMl := hM.1
  have HS : Hid (Sl w v L) := hs
  have HS1 : Hid (Sl (w.alloc (.cells (cv V M) 30)) v L) := hs.below ((Below.refl _ _).alloc (Nat.le_refl _) _)
  cases hR : leftC V M L (bnd m) with
  | none =>
    have C1 : Hid (∀ W, Sl W v L → Calls Try.prog 15 #[.agg (cv V M), v, .int .i64 m] W fun e w' => e = .returned (.tuple #[.slice none 0 0, .int .i64 4]) ∧ Below W.heap.size W w') := fun W h => left_none hV hM hn hR v W h
    clear hV hM hs hR
    go_enter Try.func18, Try.ntmps18
    go_wp2_with (first
      | (refine wl_loadC rfl _ rfl w.heap.size rfl V M (heap_new _ _ _ rfl) hVl hMl ?_))
    refine (C1.out _ HS1.out).mono ?_
    rintro e w1 ⟨rfl, hb1⟩
    have B1 : Below w.heap.size w w1 := ((Below.refl _ _).alloc (Nat.le_refl _) _).trans (hb1.mono (by simp))
    go_wp2_with fail
    go_ret2
    exact ⟨rfl, B1⟩
  | some R =>
    have C1 : Hid (∀ W, Sl W v L → Calls Try.prog 15 #[.agg (cv V M), v, .int .i64 m] W fun e w' => ∃ u, e = .returned (.tuple #[u, .int .i64 0]) ∧ Sl w' u R ∧ R.length ≤ 1000 ∧ Below W.heap.size W w') := fun W h => left_some hV hM hn hR v W h
    clear hV hM hs hR
    go_enter Try.func18, Try.ntmps18
    go_wp2_with (first
      | (refine wl_loadC rfl _ rfl w.heap.size rfl V M (heap_new _ _ _ rfl) hVl hMl ?_))
    refine (C1.out _ HS1.out).mono ?_
    rintro e w1 ⟨u, rfl, hsl, hrl, hb1⟩
    have B1 : Below w.heap.size w w1 := ((Below.refl _ _).alloc (Nat.le_refl _) _).trans (hb1.mono (by simp))
    obtain ⟨o, cap, rfl, _, _⟩ := hsl.slice
    clear hb1 hsl C1
    cases R with
    | nil =>
      go_wp2_with fail
      go_ret2
      exact ⟨rfl, B1⟩
    | cons c R =>
      simp only [List.length_cons] at hrl ⊢
      obtain ⟨r, hr⟩ : ∃ r, r = R.length := ⟨_, rfl⟩
      rw [← hr] at hrl ⊢
      clear hr
      go_wp2_with fail
      go_ret2
      refine ⟨?_, B1⟩
      exact ret_pair (a := ((r : Int) + 1 == 0)) (b := false) (by simp; omega) rfl
set_option maxHeartbeats 2000000 in
theorem rcovers_any (V M : List Int) (hV : Byt V) (hM : Byt M) (L : List (List Int × List Int)) (hn : L.length ≤ 1000000) (m : Int) (v : Value) (w : World) (hs : Sl w v L) :
    Calls Try.prog 19 #[v, .agg (cv V M), .int .i64 m] w fun e w' => e = .returned (.tuple #[.bool (covB (leftC V M L (bnd m))), .int .i64 (errI (leftC V M L (bnd m)))]) ∧ Below w.heap.size w w' := by
  have hVl := hV.1
  have hMl := hM.1
  have HS : Hid (Sl w v L) := hs
  have HS1 : Hid (Sl (w.alloc (.cells (cv V M) 30)) v L) := hs.below ((Below.refl _ _).alloc (Nat.le_refl _) _)
  cases hR : leftC V M L (bnd m) with
  | none =>
    have C1 : Hid (∀ W, Sl W v L → Calls Try.prog 16 #[.agg (cv V M), v, .int .i64 m] W fun e w' => e = .returned (.tuple #[.slice none 0 0, .int .i64 4]) ∧ Below W.heap.size W w') := fun W h => rleft_none hV hM hn hR v W h
    clear hV hM hs hR
    go_enter Try.func19, Try.ntmps19
    go_wp2_with (first
      | (refine wl_loadC rfl _ rfl w.heap.size rfl V M (heap_new _ _ _ rfl) hVl hMl ?_))
    refine (C1.out _ HS1.out).mono ?_
    rintro e w1 ⟨rfl, hb1⟩
    have B1 : Below w.heap.size w w1 := ((Below.refl _ _).alloc (Nat.le_refl _) _).trans (hb1.mono (by simp))
    go_wp2_with fail
    go_ret2
    exact ⟨rfl, B1⟩
  | some R =>
    have C1 : Hid (∀ W, Sl W v L → Calls Try.prog 16 #[.agg (cv V M), v, .int .i64 m] W fun e w' => ∃ u, e = .returned (.tuple #[u, .int .i64 0]) ∧ Sl w' u R ∧ R.length ≤ 1000 ∧ Below W.heap.size W w') := fun W h => rleft_some hV hM hn hR v W h
    clear hV hM hs hR
    go_enter Try.func19, Try.ntmps19
    go_wp2_with (first
      | (refine wl_loadC rfl _ rfl w.heap.size rfl V M (heap_new _ _ _ rfl) hVl hMl ?_))
    refine (C1.out _ HS1.out).mono ?_
    rintro e w1 ⟨u, rfl, hsl, hrl, hb1⟩
    have B1 : Below w.heap.size w w1 := ((Below.refl _ _).alloc (Nat.le_refl _) _).trans (hb1.mono (by simp))
    obtain ⟨o, cap, rfl, _, _⟩ := hsl.slice
    clear hb1 hsl C1
    cases R with
    | nil =>
      go_wp2_with fail
      go_ret2
      exact ⟨rfl, B1⟩
    | cons c R =>
      simp only [List.length_cons] at hrl ⊢
      obtain ⟨r, hr⟩ : ∃ r, r = R.length := ⟨_, rfl⟩
      rw [← hr] at hrl ⊢
      clear hr
      go_wp2_with fail
      go_ret2
      refine ⟨?_, B1⟩
      exact ret_pair (a := ((r : Int) + 1 == 0)) (b := false) (by simp; omega) rfl

/-- What is told of cubes that a list is to cover, up to the first that it does not. -/
def eachR (L : List (List Int × List Int)) (m : Int) : List (List Int × List Int) → Bool × Int
  | [] => (true, 0)
  | c :: C => if covB (leftC c.1 c.2 L (bnd m)) = true then eachR L m C else (false, errI (leftC c.1 c.2 L (bnd m)))
theorem eachR_cons {L C : List (List Int × List Int)} {m : Int} {k : Nat} {U N : List Int} (hk : C[k]? = some (U, N)) : eachR L m (C.drop k) = if covB (leftC U N L (bnd m)) = true then eachR L m (C.drop (k + 1)) else (false, errI (leftC U N L (bnd m))) := by
  obtain ⟨h, h2⟩ := List.getElem?_eq_some_iff.1 hk
  rw [List.drop_eq_getElem_cons h, h2, eachR]
def sameR (A B : List (List Int × List Int)) (m : Int) : Bool × Int := if (eachR B m A).1 = true then eachR A m B else (false, (eachR B m A).2)

set_option maxHeartbeats 4000000 in
theorem each_any (L C : List (List Int × List Int)) (hn : L.length ≤ 1000000) (hn' : C.length ≤ 1000000) (m : Int) (v u : Value) (w : World) (hs : Sl w v L) (hc : Sl w u C) :
    Calls Try.prog 39 #[v, u, .int .i64 m] w fun e w' => e = .returned (.tuple #[.bool (eachR L m C).1, .int .i64 (eachR L m C).2]) ∧ Below w.heap.size w w' := by
  obtain ⟨o, cap, rfl, _, _⟩ := hc.slice
  obtain ⟨n, hne⟩ : ∃ n, n = C.length := ⟨_, rfl⟩
  rw [← hne] at hc hn' ⊢
  have HN : Hid (n = C.length) := hne
  have HC : Hid (Sl w (.slice o n cap) C) := hc
  have HS : Hid (Sl w v L) := hs
  have CC : Hid (∀ U N : List Int, Byt U → Byt N → ∀ W, Sl W v L → Calls Try.prog 18 #[v, .agg (cv U N), .int .i64 m] W fun e w' => e = .returned (.tuple #[.bool (covB (leftC U N L (bnd m))), .int .i64 (errI (leftC U N L (bnd m)))]) ∧ Below W.heap.size W w') := fun U N h1 h2 W h => covers_any U N h1 h2 L hn m v W h
  obtain ⟨R, hR⟩ : ∃ R, R = eachR L m C := ⟨_, rfl⟩
  have HR : Hid (eachR L m (C.drop 0) = R) := hR.symm
  rw [← hR]
  clear hs hc hne hR
  go_enter Try.func39, Try.ntmps39
  go_wp2_with fail
  go_loopw [14] (fun i wr => ∃ k : Nat, k ≤ n ∧ i = .int .i64 k ∧ eachR L m (C.drop k) = R ∧ Below w.heap.size w wr) (fun i _ => n - (intOf i).toNat)
  case atStart => exact ⟨0, Nat.zero_le _, rfl, HR.out, Below.refl _ _⟩
  case round =>
    clear HR
    obtain ⟨k, hk, rfl, hR, hb⟩ := hrel
    have HR : Hid (eachR L m (C.drop k) = R) := hR
    clear hR
    by_cases hlt : k < n
    · obtain ⟨g, off, cur, t, fr, U, N, rfl, hg, hcc, hCk, hU, hN⟩ := HC.out.at k hlt
      have hUl := hU.1
      have hNl := hN.1
      have hg' : wr.heap[g]? = some (.cells cur t fr) := (hb.block g (Array.getElem?_eq_some_iff.1 hg).1).trans hg
      have HE : Hid (∀ j, j < 26 → cur[off + k * 26 + j]? = (cv U N)[j]?) := hcc
      have D1 : Hid (∀ W, Sl W v L → Calls Try.prog 18 #[v, .agg (cv U N), .int .i64 m] W fun e w' => e = .returned (.tuple #[.bool (covB (leftC U N L (bnd m))), .int .i64 (errI (leftC U N L (bnd m)))]) ∧ Below W.heap.size W w') := CC.out U N hU hN
      have HST : Hid (eachR L m (C.drop k) = if covB (leftC U N L (bnd m)) = true then eachR L m (C.drop (k + 1)) else (false, errI (leftC U N L (bnd m)))) := eachR_cons hCk
      have k1 := heap_new wr (.cells (cv U N) 30) _ rfl
      have B2 := hb.alloc hb.size (.cells (cv U N) 30)
      have HS2 : Hid (Sl (wr.alloc (.cells (cv U N) 30)) v L) := HS.out.below B2
      obtain ⟨x, hx⟩ : ∃ x, x = covB (leftC U N L (bnd m)) := ⟨_, rfl⟩
      obtain ⟨y, hy⟩ : ∃ y, y = errI (leftC U N L (bnd m)) := ⟨_, rfl⟩
      rw [← hx, ← hy] at D1 HST
      clear hg hcc hCk hU hN hx hy
      go_wp2_with (first
        | (refine wl_loadCat rfl _ rfl g (off + k * 26) rfl cur t fr U N hUl hNl hg' HE.out ?_)
        | (refine wl_storeC rfl _ _ rfl wr.heap.size U N rfl rfl _ (heap_new _ _ _ rfl) rfl hUl hNl _ (setRow_new _ _ _ _ _ rfl) ?_)
        | (refine wl_loadC rfl _ rfl wr.heap.size rfl U N k1 hUl hNl ?_))
      refine (D1.out _ HS2.out).mono ?_
      rintro e w4 ⟨rfl, hb4⟩
      have B4 := B2.trans (hb4.mono B2.size)
      clear hb4 D1 HS2 k1 B2 hg' hb
      cases x
      · go_wp2_with fail
        go_ret2
        refine ⟨?_, B4⟩
        have := HR.out
        rw [HST.out] at this
        have h2 : (false, y) = R := by simpa using this
        rw [← h2]; rfl
      · go_wp2_with fail
        go_roundw
        case rel =>
          refine ⟨k + 1, by omega, by go_num, ?_, B4⟩
          have := HR.out
          rw [HST.out] at this
          simpa using this
        case measure => simp [intOf]; omega
    · obtain rfl : k = n := by omega
      go_wp2_with fail
      go_ret2
      refine ⟨?_, hb⟩
      have := HR.out
      rw [HN.out, List.drop_length] at this
      rw [← this]; rfl

set_option maxHeartbeats 2000000 in
theorem csame_any (A B : List (List Int × List Int)) (hA : A.length ≤ 1000000) (hB : B.length ≤ 1000000) (m : Int) (v u : Value) (w : World) (ha : Sl w v A) (hb : Sl w u B) :
    Calls Try.prog 22 #[v, u, .int .i64 m] w fun e w' => e = .returned (.tuple #[.bool (sameR A B m).1, .int .i64 (sameR A B m).2]) ∧ Below w.heap.size w w' := by
  have HA : Hid (Sl w v A) := ha
  have HB : Hid (Sl w u B) := hb
  have C1 : Hid (∀ W, Sl W u B → Sl W v A → Calls Try.prog 39 #[u, v, .int .i64 m] W fun e w' => e = .returned (.tuple #[.bool (eachR B m A).1, .int .i64 (eachR B m A).2]) ∧ Below W.heap.size W w') := fun W h1 h2 => each_any B A hB hA m u v W h1 h2
  have C2 : Hid (∀ W, Sl W v A → Sl W u B → Calls Try.prog 39 #[v, u, .int .i64 m] W fun e w' => e = .returned (.tuple #[.bool (eachR A m B).1, .int .i64 (eachR A m B).2]) ∧ Below W.heap.size W w') := fun W h1 h2 => each_any A B hA hB m v u W h1 h2
  obtain ⟨S, hS⟩ : ∃ S, S = sameR A B m := ⟨_, rfl⟩
  have HSE : Hid (S = if (eachR B m A).1 = true then eachR A m B else (false, (eachR B m A).2)) := hS
  obtain ⟨⟨x, y⟩, hE⟩ : ∃ E, E = eachR B m A := ⟨_, rfl⟩
  obtain ⟨⟨x', y'⟩, hE'⟩ : ∃ E, E = eachR A m B := ⟨_, rfl⟩
  rw [← hE] at C1 HSE
  rw [← hE'] at C2 HSE
  rw [← hS]
  clear ha hb hS hE hE'
  go_enter Try.func22, Try.ntmps22
  go_wp2_with fail
  refine (C1.out _ HB.out HA.out).mono ?_
  rintro e w1 ⟨rfl, hb1⟩
  have HA1 : Hid (Sl w1 v A) := HA.out.below hb1
  have HB1 : Hid (Sl w1 u B) := HB.out.below hb1
  cases x
  · go_wp2_with fail
    go_ret2
    exact ⟨by rw [HSE.out]; rfl, hb1⟩
  · go_wp2_with fail
    refine (C2.out _ HA1.out HB1.out).mono ?_
    rintro e w2 ⟨rfl, hb2⟩
    go_wp2_with fail
    go_ret2
    exact ⟨by rw [HSE.out]; rfl, hb1.trans (hb2.mono hb1.size)⟩
end Go.Proofs.Ytjlghkiplapodaa
namespace Go.Proofs.Ytjlghkiplapodaa
open Go Go.RowKit

/-- Thirteen bytes of ones. -/
def F : List Int := mk fun _ => true
theorem F_byt : Byt F := mk_byt _
theorem F_at (k : Nat) (hk : k < 13) : F.getD k 0 = 255 := by unfold F; rw [mk_at _ k hk]; rfl

theorem built1 (L : List Int) (hL : L.length = 13) (w : World) : (Instr.build 30 #[(0, .agg (hv L))]).run Try.prog w = .ok (.agg (cv L Z)) w := by
  have hz : ∀ w, (zeroValue 30).run Try.prog w = .ok (.agg zeroC) w := fun w => by kernel_rfl
  have hs : ∀ w, (sizeOf 24).run Try.prog w = .ok 13 w := fun w => by kernel_rfl
  have hsz : (hv L).size = 13 := by rw [hv_size, hL]
  have hfold : (hv L).zipIdx.foldl (fun cs (x : Value × Nat) => cs.setIfInBounds (0 + x.2) x.1) zeroC = cv L Z := by
    have e : (hv L).zipIdx.foldl (fun cs (x : Value × Nat) => cs.setIfInBounds (0 + x.2) x.1) zeroC = ((hv L).toList.zipIdx 0).foldl (fun cs (x : Value × Nat) => cs.setIfInBounds (0 + x.2) x.1) zeroC := by
      rw [← Array.foldl_toList]; simp
    rw [e]
    apply Array.ext_getElem?
    intro k
    rw [fold_get 0 (hv L).toList 0 zeroC k (by simp [hsz])]
    simp only [Array.length_toList, hsz, Nat.zero_add, Nat.sub_zero]
    by_cases hk : k < 13
    · rw [if_pos (by omega), Array.getElem?_toList, hv_at L hL k hk, cv_val L Z hL k hk]
    · rw [if_neg (by omega), zeroC_eq]
      by_cases h2 : k < 26
      · have e2 : k = 13 + (k - 13) := by omega
        rw [e2, cv_mask Z Z Z_byt.1 Z_byt.1 _ (by omega), cv_mask L Z hL Z_byt.1 _ (by omega)]
      · rw [Array.getElem?_eq_none (by rw [cv_size _ _ Z_byt.1 Z_byt.1]; omega), Array.getElem?_eq_none (by rw [cv_size _ _ hL Z_byt.1]; omega)]
  have hfill : ∀ pl : Nat → Option (Nat × Nat), pl 0 = some (0, 13) → Instr.fill pl zeroC [(0, .agg (hv L))] = some (cv L Z) := fun pl h0 => by
    simp only [Instr.fill, h0, Value.cells, hsz]
    rw [if_neg (by simp)]
    exact congrArg some hfold
  simp only [Instr.build, Sem.run_bind, hz, run_underlying Try.underlying30, Result.andThen_ok, Value.cells]
  simp [Sem.run_bind, hs, hfill]

theorem wl_buildC {ops : Array Oper} {rest : List Oper} {o : Oper} {a : Act} {w : World} {Q : Exit → Act → World → Prop} (hg : o.guard = none) (x : Operand) (ho : o.op = .build 30 #[(0, x)]) (L : List Int) (hL : L.length = 13) (hx : a.eval x = .agg (hv L))
    (h : wpList Try.prog ops Q rest (a.put o.dst (.agg (cv L Z))) w) : wpList Try.prog ops Q (o :: rest) a w :=
  wpList_plain hg fun _ hK => by
    unfold Oper.wp execOp
    have e : (#[(0, x)] : Array (Nat × Operand)).map (fun (i, x) => (i, a.eval x)) = #[(0, .agg (hv L))] := by simp [hx]
    simp only [ho, Sem.run_bind]
    rw [e, built1 L hL]
    exact hK _ _ h

end Go.Proofs.Ytjlghkiplapodaa
