import Derived.Test.YtdibjhlckjjlfaaJ12
namespace Go.Proofs.Ytdibjhlckjjlfaa
open Go Go.RowKit
set_option maxRecDepth 20000

set_option maxHeartbeats 16000000 in
set_option maxRecDepth 100000 in
theorem lawAMost_any (l0 : List RuleM) (hok0 : ∀ r ∈ l0, okR8 r) (vl : Value) (H : List Int) (hH : Byt H) (i : Int) (w : World) (hl0 : RulesAt w vl l0) :
    Calls Try.prog 6 #[vl, .agg (hv H), .int .i64 i] w fun e w' => e = .returned (.bool true) ∧ Below w.heap.size w w' := by
  obtain ⟨o, n0, n, cap, l, rfl, K⟩ := cut40 hok0 hl0
  have hc1 := K.cap1
  have hc2 := K.cap2
  unfold maxLen at hc2
  have hn0' := K.le
  have HNM : Hid ((n : Int) = min (n0 : Int) 40) := K.min
  have hsl := K.slice
  have AW : Hid (∀ W, Calls Try.prog 8 #[] W fun e w' => e = .returned (.bool true) ∧ Below W.heap.size W w') := fun W => awake15_any W
  have hHl := hH.1
  have K0 : Hid ((w.alloc (.cells (hv H) 28)).heap[w.heap.size]? = some (.cells (hv H) 28 (0, 0))) := heap_new _ _ _ rfl
  have B0 : Hid (Below w.heap.size w (w.alloc (.cells (hv H) 28))) := (Below.refl _ _).alloc (Nat.le_refl _) _
  rcases first_or l H with ⟨p, r, hF⟩ | hF
  · obtain ⟨hcH, hin, hcl, hR, hmost⟩ := about_ok (A := cubsA (l.take p)) (K.ok r hF.mem).2 hF.has_ hF.ahead
    have c1 := fun W hW => about_yes l K.ok (by have := K.le40; omega) (.slice o n cap) H hH p r hF W hW
    have c2 := fun W hW => rfirst_yes l K.ok (.slice o n cap) H hH p r hF W hW
    have hr := K.ok r hF.mem
    have HR : Hid (okR8 r) := hr
    have hpn : p < n := by rw [← K.len]; exact hF.lt
    have HC0 : ∀ (V M : List Int) W, Byt V → Byt M → Below w.heap.size w W → Calls Try.prog 17 #[.slice o n cap, .int .i64 (p : Int), .agg (cv V M)] W fun e w' => e = .returned (.bool (clearA (cubsA (l.take p)) (V, M))) ∧ Below W.heap.size W w' := fun V M W h1 h2 hb => clear_any l K.ok _ V M h1 h2 p (Nat.le_of_lt hF.lt) W (GSl.below K.at_ hb)
    obtain ⟨V, M, hVM⟩ : ∃ V M, aboutA (cubsA (l.take p)) r.cube H = (V, M) := ⟨_, _, rfl⟩
    rw [hVM] at hcH hR hin hcl hmost
    simp only [hVM] at c1
    obtain ⟨g, off, cur, ty, fr, r', rfl, hg, hc, hxp⟩ := GSl.at K.at_ p hpn
    rw [hF.at_] at hxp
    obtain rfl := Option.some.inj hxp
    have P1 : Hid (w.heap[g]? = some (.cells cur ty fr)) := hg
    have P2 : Hid (∀ j, j < 26 → cur[off + p * 28 + 1 + j]? = (cv r.cube.1 r.cube.2)[j]?) := cube_in hr hc
    have hgw : g < w.heap.size := (Array.getElem?_eq_some_iff.1 hg).1
    have hrl1 := hr.1.1
    have hrl2 := hr.2.1
    have hVl := hR.1.1
    have hMl := hR.2.1.1
    have HV : Hid (Byt V) := hR.1
    have HMM : Hid (Byt M) := hR.2.1
    have HRR : Hid (rightA (V, M)) := hR
    have C1 : Hid (∀ W, Below w.heap.size w W → Calls Try.prog 11 #[.slice (some ⟨g, off, none⟩) n cap, .agg (hv H)] W fun e w' => e = .returned (.tuple #[.agg (cv V M), .int .i64 r.action, .bool true]) ∧ Below W.heap.size W w') := fun W hb => c1 W (GSl.below K.at_ hb)
    have C2 : Hid (∀ W, Below w.heap.size w W → Calls Try.prog 14 #[.slice (some ⟨g, off, none⟩) n cap, .agg (hv H)] W fun e w' => e = .returned (.int .i64 (p : Int)) ∧ Below W.heap.size W w') := fun W hb => c2 W (GSl.below K.at_ hb)
    have HC : Hid (∀ (V M : List Int) W, Byt V → Byt M → Below w.heap.size w W → Calls Try.prog 17 #[.slice (some ⟨g, off, none⟩) n cap, .int .i64 (p : Int), .agg (cv V M)] W fun e w' => e = .returned (.bool (clearA (cubsA (l.take p)) (V, M))) ∧ Below W.heap.size W w') := HC0
    have D0 : Hid (∀ W, Below w.heap.size w W → Calls Try.prog 17 #[.slice (some ⟨g, off, none⟩) n cap, .int .i64 (p : Int), .agg (cv V M)] W fun e w' => e = .returned (.bool true) ∧ Below W.heap.size W w') := fun W hb => by
      have := HC0 V M W hR.1 hR.2.1 hb
      rwa [hcl] at this
    have DW : Hid (∀ W, Calls Try.prog 18 #[.agg (cv V M), .agg (cv r.cube.1 r.cube.2)] W fun e w' => e = .returned (.bool true) ∧ Below W.heap.size W w') := fun W => by
      have := within_any V M r.cube.1 r.cube.2 hR.1 hR.2.1 hr.1 hr.2 W
      rwa [inA_within.1 hin] at this
    have hp0 : decide ((p : Int) ≥ 0) = true := by simp
    have hpn' : (p : Int) < (n : Int) := by omega
    have HMO : Hid (∀ k, k < 104 → bt r.cube.2 k = false → bt M k = true → clearA (cubsA (l.take p)) (freeA (V, M) k) = false) := hmost
    clear K hl0 hok0 c1 c2 hF hcH hin hcl hR hmost HC0 hr hg hc hxp hH
    by_cases hi : 0 ≤ i ∧ i < 104
    · obtain ⟨k, rfl⟩ := Int.eq_ofNat_of_zero_le hi.1
      have hk : k < 104 := by omega
      have hk' : (k : Int) < 104 := by omega
      have d1 : decide ((k : Int) < 0) = false := by simp
      have d2 : decide ((k : Int) ≥ 104) = false := by simp; omega
      have d3 : decide (104 ≤ (k : Int)) = false := by simp; omega
      have d4 : decide (104 ≤ k) = false := by simp; omega
      have D30 : ∀ W, Calls Try.prog 20 #[.agg (cv V M), .int .i64 (k : Int), .int .i64 2] W fun e w' => e = .returned (.agg (cv (setb V k ((2 : Int) == 1)) (setb M k ((2 : Int) != 2)))) ∧ Below W.heap.size W w' := fun W => rset_any V M HV.out HMM.out k hk 2 W
      have hR2 := rightA_free HRR.out k
      have HMS0 := HMO.out k hk
      obtain ⟨V2, M2', hVM2⟩ : ∃ V2 M2', freeA (V, M) k = (V2, M2') := ⟨_, _, rfl⟩
      have e1 : setb V k ((2 : Int) == 1) = V2 := congrArg Prod.fst hVM2
      have e2 : setb M k ((2 : Int) != 2) = M2' := congrArg Prod.snd hVM2
      rw [hVM2] at hR2 HMS0
      rw [e1, e2] at D30
      have HMS : Hid (bt r.cube.2 k = false → bt M k = true → clearA (cubsA (l.take p)) (V2, M2') = false) := HMS0
      have HV2 : Hid (Byt V2) := hR2.1
      have HM2 : Hid (Byt M2') := hR2.2.1
      have D3 : Hid (∀ W, Calls Try.prog 20 #[.agg (cv V M), .int .i64 (k : Int), .int .i64 2] W fun e w' => e = .returned (.agg (cv V2 M2')) ∧ Below W.heap.size W w') := D30
      clear D30 hR2 HMS0 hVM2 e1 e2 HMO hi hVM
      go_enter Try.func6, Try.ntmps6
      go_wp2_with fail
      refine (AW.out _).mono ?_
      rintro e w1 ⟨rfl, hb1⟩
      have R0 : Hid (w1.heap[w.heap.size]? = some (.cells (hv H) 28 (0, 0))) := (hb1.block _ (by simp)).trans K0.out
      have B1 : Hid (Below w.heap.size w w1) := B0.out.trans (hb1.mono B0.out.size)
      clear hb1 K0 B0
      go_wp2_with (first | (refine wl_min7 rfl _ _ rfl (n0 : Int) 40 (n : Int) rfl rfl HNM.out ?_) | (refine wl_load26 rfl _ rfl w.heap.size rfl H R0.out hHl ?_))
      refine (C1.out _ B1.out).mono ?_
      rintro e w2 ⟨rfl, hb2⟩
      have hbw := B1.out.trans (hb2.mono B1.out.size)
      have B2 : Hid (Below w.heap.size w (w2.alloc (.cells (cv V M) 30))) := hbw.alloc hbw.size _
      have S0 : Hid ((w2.alloc (.cells (cv V M) 30)).heap[w.heap.size]? = some (.cells (hv H) 28 (0, 0))) := heap_past _ _ _ _ ((hb2.block _ (Array.getElem?_eq_some_iff.1 R0.out).1).trans R0.out)
      have S2 : Hid ((w2.alloc (.cells (cv V M) 30)).heap[w2.heap.size]? = some (.cells (cv V M) 30 (0, 0))) := heap_new _ _ _ rfl
      clear hb2 hbw R0 B1
      go_wp2_with (first
        | (refine wl_storeC rfl _ _ rfl w2.heap.size V M rfl rfl _ (heap_new _ _ _ rfl) rfl hVl hMl _ (setRow_new _ _ _ _ _ rfl) ?_)
        | (refine wl_load26 rfl _ rfl w.heap.size rfl H S0.out hHl ?_))
      refine (C2.out _ B2.out).mono ?_
      rintro e w3 ⟨rfl, hb3⟩
      have B3 : Hid (Below w.heap.size w w3) := B2.out.trans (hb3.mono B2.out.size)
      have T2 : Hid (w3.heap[w2.heap.size]? = some (.cells (cv V M) 30 (0, 0))) := (hb3.block _ (Array.getElem?_eq_some_iff.1 S2.out).1).trans S2.out
      obtain ⟨gc, hgc⟩ : ∃ gc, gc = w2.heap.size := ⟨_, rfl⟩
      rw [← hgc] at T2 ⊢
      clear hb3 S0 S2 B2 hgc
      have T3 : Hid (w3.heap[g]? = some (.cells cur ty fr)) := (B3.out.block _ hgw).trans P1.out
      go_wp2_with fail
      have ne1 := Later.ne w3
      refine wp_region_later (by kernel_rfl) (by kernel_rfl) ?_
      go_big_quiet_step (fail)
      go_big_quiet_step (fail)
      refine qlC rfl _ rfl gc rfl V M T2.out hVl hMl ?_
      simp only [Act.put, List.setIfInBounds_toArray, List.set_cons_succ, List.set_cons_zero]
      go_big_quiet_want; go_big_quiet_op
      refine ⟨_, fun u => Calls.later_of (D0.out u.world (B3.out.trans (u.below.mono B3.out.size))), ?_⟩
      go_big_quiet_on
      go_big_quiet_step (fail)
      go_big_quiet_step (fail)
      refine qlC rfl _ rfl gc rfl V M T2.out hVl hMl ?_
      simp only [Act.put, List.setIfInBounds_toArray, List.set_cons_succ, List.set_cons_zero]
      go_big_quiet_step (fail)
      go_big_quiet_step (fail)
      go_big_quiet_step (fail)
      go_big_quiet_step (fail)
      refine qlCw rfl _ rfl g (off + p * 28 + 1) rfl cur ty fr r.cube.1 r.cube.2 hrl1 hrl2 (later_block T3.out) P2.out ?_
      simp only [Act.put, List.setIfInBounds_toArray, List.set_cons_succ, List.set_cons_zero]
      go_big_quiet_want; go_big_quiet_op
      refine ⟨_, fun u => Calls.later_of (DW.out u.world), ?_⟩
      go_big_quiet_on
      go_big_quiet_step (fail)
      go_big_quiet_step (fail)
      refine wpQuiet_nil ?_
      rintro w' ⟨v5, rfl⟩
      have hb1 := v5.below
      obtain ⟨w4, hw4⟩ : ∃ w4, w4 = v5.world := ⟨_, rfl⟩
      rw [← hw4] at hb1 ⊢
      have B4 : Hid (Below w.heap.size w w4) := B3.out.trans (hb1.mono B3.out.size)
      have N1 : Hid (w4.heap[gc]? = some (.cells (cv V M) 30 (0, 0))) := (hb1.block _ (Array.getElem?_eq_some_iff.1 T2.out).1).trans T2.out
      have N2 : Hid (w4.heap[g]? = some (.cells cur ty fr)) := (hb1.block _ (Array.getElem?_eq_some_iff.1 T3.out).1).trans T3.out
      clear hb1 hw4 v5 ne1 T2 T3 B3 D0 DW
      rcases at_three V M k with ⟨hby, hey | hey⟩ | ⟨hby, hey⟩
      · have D1 : Hid (∀ W, Calls Try.prog 19 #[.agg (cv V M), .int .i64 (k : Int)] W fun e w' => e = .returned (.int .i64 0) ∧ Below W.heap.size W w') := fun W => by
          have := at_any V M HV.out HMM.out k hk W
          rwa [hey] at this
        clear hey
        go_wp2_with (first
          | (refine wl_loadC rfl _ rfl gc rfl V M N1.out hVl hMl ?_))
        refine (D1.out _).mono ?_
        rintro e w5 ⟨rfl, hb5⟩
        have B5 : Hid (Below w.heap.size w w5) := B4.out.trans (hb5.mono B4.out.size)
        have M1 : Hid (w5.heap[gc]? = some (.cells (cv V M) 30 (0, 0))) := (hb5.block _ (Array.getElem?_eq_some_iff.1 N1.out).1).trans N1.out
        have M2 : Hid (w5.heap[g]? = some (.cells cur ty fr)) := (hb5.block _ (Array.getElem?_eq_some_iff.1 N2.out).1).trans N2.out
        clear hb5 N1 N2 B4
        rcases at_three r.cube.1 r.cube.2 k with ⟨hbx, hex | hex⟩ | ⟨hbx, hex⟩
        · have D2 : Hid (∀ W, Calls Try.prog 19 #[.agg (cv r.cube.1 r.cube.2), .int .i64 (k : Int)] W fun e w' => e = .returned (.int .i64 0) ∧ Below W.heap.size W w') := fun W => by
            have := at_any r.cube.1 r.cube.2 HR.out.1 HR.out.2 k hk W
            rwa [hex] at this
          clear hex
          go_wp2_with (first
            | (refine wl_loadCw rfl _ rfl g (off + p * 28 + 1) rfl cur ty fr r.cube.1 r.cube.2 hrl1 hrl2 M2.out P2.out ?_))
          refine (D2.out _).mono ?_
          rintro e w6 ⟨rfl, hb6⟩
          have B6 : Hid (Below w.heap.size w w6) := B5.out.trans (hb6.mono B5.out.size)
          clear hb6 hbx hby
          go_wp2_with fail
          go_ret
          exact ⟨rfl, B6.out⟩
        · have D2 : Hid (∀ W, Calls Try.prog 19 #[.agg (cv r.cube.1 r.cube.2), .int .i64 (k : Int)] W fun e w' => e = .returned (.int .i64 1) ∧ Below W.heap.size W w') := fun W => by
            have := at_any r.cube.1 r.cube.2 HR.out.1 HR.out.2 k hk W
            rwa [hex] at this
          clear hex
          go_wp2_with (first
            | (refine wl_loadCw rfl _ rfl g (off + p * 28 + 1) rfl cur ty fr r.cube.1 r.cube.2 hrl1 hrl2 M2.out P2.out ?_))
          refine (D2.out _).mono ?_
          rintro e w6 ⟨rfl, hb6⟩
          have B6 : Hid (Below w.heap.size w w6) := B5.out.trans (hb6.mono B5.out.size)
          clear hb6 hbx hby
          go_wp2_with fail
          go_ret
          exact ⟨rfl, B6.out⟩
        · have D2 : Hid (∀ W, Calls Try.prog 19 #[.agg (cv r.cube.1 r.cube.2), .int .i64 (k : Int)] W fun e w' => e = .returned (.int .i64 2) ∧ Below W.heap.size W w') := fun W => by
            have := at_any r.cube.1 r.cube.2 HR.out.1 HR.out.2 k hk W
            rwa [hex] at this
          clear hex
          go_wp2_with (first
            | (refine wl_loadCw rfl _ rfl g (off + p * 28 + 1) rfl cur ty fr r.cube.1 r.cube.2 hrl1 hrl2 M2.out P2.out ?_))
          refine (D2.out _).mono ?_
          rintro e w6 ⟨rfl, hb6⟩
          have B6 : Hid (Below w.heap.size w w6) := B5.out.trans (hb6.mono B5.out.size)
          have L1 : Hid (w6.heap[gc]? = some (.cells (cv V M) 30 (0, 0))) := (hb6.block _ (Array.getElem?_eq_some_iff.1 M1.out).1).trans M1.out
          have D4 : Hid (∀ W, Below w.heap.size w W → Calls Try.prog 17 #[.slice (some ⟨g, off, none⟩) n cap, .int .i64 (p : Int), .agg (cv V2 M2')] W fun e w' => e = .returned (.bool false) ∧ Below W.heap.size W w') := fun W hb => by
            have := HC.out V2 M2' W HV2.out HM2.out hb
            rwa [HMS.out hbx hby] at this
          clear hb6 hbx hby M1 M2 B5
          go_wp2_with (first
            | (refine wl_loadC rfl _ rfl gc rfl V M L1.out hVl hMl ?_))
          refine (D3.out _).mono ?_
          rintro e w7 ⟨rfl, hb7⟩
          have B7 : Hid (Below w.heap.size w w7) := B6.out.trans (hb7.mono B6.out.size)
          clear hb7
          go_wp2_with fail
          refine (D4.out _ B7.out).mono ?_
          rintro e w8 ⟨rfl, hb8⟩
          have B8 : Hid (Below w.heap.size w w8) := B7.out.trans (hb8.mono B7.out.size)
          clear hb8
          go_wp2_with fail
          go_ret
          exact ⟨rfl, B8.out⟩
      · have D1 : Hid (∀ W, Calls Try.prog 19 #[.agg (cv V M), .int .i64 (k : Int)] W fun e w' => e = .returned (.int .i64 1) ∧ Below W.heap.size W w') := fun W => by
          have := at_any V M HV.out HMM.out k hk W
          rwa [hey] at this
        clear hey
        go_wp2_with (first
          | (refine wl_loadC rfl _ rfl gc rfl V M N1.out hVl hMl ?_))
        refine (D1.out _).mono ?_
        rintro e w5 ⟨rfl, hb5⟩
        have B5 : Hid (Below w.heap.size w w5) := B4.out.trans (hb5.mono B4.out.size)
        have M1 : Hid (w5.heap[gc]? = some (.cells (cv V M) 30 (0, 0))) := (hb5.block _ (Array.getElem?_eq_some_iff.1 N1.out).1).trans N1.out
        have M2 : Hid (w5.heap[g]? = some (.cells cur ty fr)) := (hb5.block _ (Array.getElem?_eq_some_iff.1 N2.out).1).trans N2.out
        clear hb5 N1 N2 B4
        rcases at_three r.cube.1 r.cube.2 k with ⟨hbx, hex | hex⟩ | ⟨hbx, hex⟩
        · have D2 : Hid (∀ W, Calls Try.prog 19 #[.agg (cv r.cube.1 r.cube.2), .int .i64 (k : Int)] W fun e w' => e = .returned (.int .i64 0) ∧ Below W.heap.size W w') := fun W => by
            have := at_any r.cube.1 r.cube.2 HR.out.1 HR.out.2 k hk W
            rwa [hex] at this
          clear hex
          go_wp2_with (first
            | (refine wl_loadCw rfl _ rfl g (off + p * 28 + 1) rfl cur ty fr r.cube.1 r.cube.2 hrl1 hrl2 M2.out P2.out ?_))
          refine (D2.out _).mono ?_
          rintro e w6 ⟨rfl, hb6⟩
          have B6 : Hid (Below w.heap.size w w6) := B5.out.trans (hb6.mono B5.out.size)
          clear hb6 hbx hby
          go_wp2_with fail
          go_ret
          exact ⟨rfl, B6.out⟩
        · have D2 : Hid (∀ W, Calls Try.prog 19 #[.agg (cv r.cube.1 r.cube.2), .int .i64 (k : Int)] W fun e w' => e = .returned (.int .i64 1) ∧ Below W.heap.size W w') := fun W => by
            have := at_any r.cube.1 r.cube.2 HR.out.1 HR.out.2 k hk W
            rwa [hex] at this
          clear hex
          go_wp2_with (first
            | (refine wl_loadCw rfl _ rfl g (off + p * 28 + 1) rfl cur ty fr r.cube.1 r.cube.2 hrl1 hrl2 M2.out P2.out ?_))
          refine (D2.out _).mono ?_
          rintro e w6 ⟨rfl, hb6⟩
          have B6 : Hid (Below w.heap.size w w6) := B5.out.trans (hb6.mono B5.out.size)
          clear hb6 hbx hby
          go_wp2_with fail
          go_ret
          exact ⟨rfl, B6.out⟩
        · have D2 : Hid (∀ W, Calls Try.prog 19 #[.agg (cv r.cube.1 r.cube.2), .int .i64 (k : Int)] W fun e w' => e = .returned (.int .i64 2) ∧ Below W.heap.size W w') := fun W => by
            have := at_any r.cube.1 r.cube.2 HR.out.1 HR.out.2 k hk W
            rwa [hex] at this
          clear hex
          go_wp2_with (first
            | (refine wl_loadCw rfl _ rfl g (off + p * 28 + 1) rfl cur ty fr r.cube.1 r.cube.2 hrl1 hrl2 M2.out P2.out ?_))
          refine (D2.out _).mono ?_
          rintro e w6 ⟨rfl, hb6⟩
          have B6 : Hid (Below w.heap.size w w6) := B5.out.trans (hb6.mono B5.out.size)
          have L1 : Hid (w6.heap[gc]? = some (.cells (cv V M) 30 (0, 0))) := (hb6.block _ (Array.getElem?_eq_some_iff.1 M1.out).1).trans M1.out
          have D4 : Hid (∀ W, Below w.heap.size w W → Calls Try.prog 17 #[.slice (some ⟨g, off, none⟩) n cap, .int .i64 (p : Int), .agg (cv V2 M2')] W fun e w' => e = .returned (.bool false) ∧ Below W.heap.size W w') := fun W hb => by
            have := HC.out V2 M2' W HV2.out HM2.out hb
            rwa [HMS.out hbx hby] at this
          clear hb6 hbx hby M1 M2 B5
          go_wp2_with (first
            | (refine wl_loadC rfl _ rfl gc rfl V M L1.out hVl hMl ?_))
          refine (D3.out _).mono ?_
          rintro e w7 ⟨rfl, hb7⟩
          have B7 : Hid (Below w.heap.size w w7) := B6.out.trans (hb7.mono B6.out.size)
          clear hb7
          go_wp2_with fail
          refine (D4.out _ B7.out).mono ?_
          rintro e w8 ⟨rfl, hb8⟩
          have B8 : Hid (Below w.heap.size w w8) := B7.out.trans (hb8.mono B7.out.size)
          clear hb8
          go_wp2_with fail
          go_ret
          exact ⟨rfl, B8.out⟩
      · have D1 : Hid (∀ W, Calls Try.prog 19 #[.agg (cv V M), .int .i64 (k : Int)] W fun e w' => e = .returned (.int .i64 2) ∧ Below W.heap.size W w') := fun W => by
          have := at_any V M HV.out HMM.out k hk W
          rwa [hey] at this
        clear hey
        go_wp2_with (first
          | (refine wl_loadC rfl _ rfl gc rfl V M N1.out hVl hMl ?_))
        refine (D1.out _).mono ?_
        rintro e w5 ⟨rfl, hb5⟩
        have B5 : Hid (Below w.heap.size w w5) := B4.out.trans (hb5.mono B4.out.size)
        clear hb5 hby
        go_wp2_with fail
        go_ret
        exact ⟨rfl, B5.out⟩
    · have hi2 : decide (i < 0) = true ∨ (decide (i < 0) = false ∧ decide (i ≥ 104) = true) := by
        by_cases h : i < 0
        · exact .inl (by simpa using h)
        · exact .inr ⟨by simp; omega, by simp; omega⟩
      clear HMO hi hVM
      rcases hi2 with d1 | ⟨d1, d2⟩
      · have d1' : i < 0 := by simpa using d1
        go_enter Try.func6, Try.ntmps6
        go_wp2_with fail
        refine (AW.out _).mono ?_
        rintro e w1 ⟨rfl, hb1⟩
        have R0 : Hid (w1.heap[w.heap.size]? = some (.cells (hv H) 28 (0, 0))) := (hb1.block _ (by simp)).trans K0.out
        have B1 : Hid (Below w.heap.size w w1) := B0.out.trans (hb1.mono B0.out.size)
        clear hb1 K0 B0
        go_wp2_with (first | (refine wl_min7 rfl _ _ rfl (n0 : Int) 40 (n : Int) rfl rfl HNM.out ?_) | (refine wl_load26 rfl _ rfl w.heap.size rfl H R0.out hHl ?_))
        refine (C1.out _ B1.out).mono ?_
        rintro e w2 ⟨rfl, hb2⟩
        have hbw := B1.out.trans (hb2.mono B1.out.size)
        have B2 : Hid (Below w.heap.size w (w2.alloc (.cells (cv V M) 30))) := hbw.alloc hbw.size _
        have S0 : Hid ((w2.alloc (.cells (cv V M) 30)).heap[w.heap.size]? = some (.cells (hv H) 28 (0, 0))) := heap_past _ _ _ _ ((hb2.block _ (Array.getElem?_eq_some_iff.1 R0.out).1).trans R0.out)
        have S2 : Hid ((w2.alloc (.cells (cv V M) 30)).heap[w2.heap.size]? = some (.cells (cv V M) 30 (0, 0))) := heap_new _ _ _ rfl
        clear hb2 hbw R0 B1
        go_wp2_with (first
          | (refine wl_storeC rfl _ _ rfl w2.heap.size V M rfl rfl _ (heap_new _ _ _ rfl) rfl hVl hMl _ (setRow_new _ _ _ _ _ rfl) ?_)
          | (refine wl_load26 rfl _ rfl w.heap.size rfl H S0.out hHl ?_))
        refine (C2.out _ B2.out).mono ?_
        rintro e w3 ⟨rfl, hb3⟩
        have B3 : Hid (Below w.heap.size w w3) := B2.out.trans (hb3.mono B2.out.size)
        have T2 : Hid (w3.heap[w2.heap.size]? = some (.cells (cv V M) 30 (0, 0))) := (hb3.block _ (Array.getElem?_eq_some_iff.1 S2.out).1).trans S2.out
        obtain ⟨gc, hgc⟩ : ∃ gc, gc = w2.heap.size := ⟨_, rfl⟩
        rw [← hgc] at T2 ⊢
        clear hb3 S0 S2 B2 hgc
        go_wp2_with fail
        go_ret
        exact ⟨by simp, B3.out⟩
      · have d1' : ¬ i < 0 := by simpa using d1
        have d2' : 104 ≤ i := by simpa using d2
        go_enter Try.func6, Try.ntmps6
        go_wp2_with fail
        refine (AW.out _).mono ?_
        rintro e w1 ⟨rfl, hb1⟩
        have R0 : Hid (w1.heap[w.heap.size]? = some (.cells (hv H) 28 (0, 0))) := (hb1.block _ (by simp)).trans K0.out
        have B1 : Hid (Below w.heap.size w w1) := B0.out.trans (hb1.mono B0.out.size)
        clear hb1 K0 B0
        go_wp2_with (first | (refine wl_min7 rfl _ _ rfl (n0 : Int) 40 (n : Int) rfl rfl HNM.out ?_) | (refine wl_load26 rfl _ rfl w.heap.size rfl H R0.out hHl ?_))
        refine (C1.out _ B1.out).mono ?_
        rintro e w2 ⟨rfl, hb2⟩
        have hbw := B1.out.trans (hb2.mono B1.out.size)
        have B2 : Hid (Below w.heap.size w (w2.alloc (.cells (cv V M) 30))) := hbw.alloc hbw.size _
        have S0 : Hid ((w2.alloc (.cells (cv V M) 30)).heap[w.heap.size]? = some (.cells (hv H) 28 (0, 0))) := heap_past _ _ _ _ ((hb2.block _ (Array.getElem?_eq_some_iff.1 R0.out).1).trans R0.out)
        have S2 : Hid ((w2.alloc (.cells (cv V M) 30)).heap[w2.heap.size]? = some (.cells (cv V M) 30 (0, 0))) := heap_new _ _ _ rfl
        clear hb2 hbw R0 B1
        go_wp2_with (first
          | (refine wl_storeC rfl _ _ rfl w2.heap.size V M rfl rfl _ (heap_new _ _ _ rfl) rfl hVl hMl _ (setRow_new _ _ _ _ _ rfl) ?_)
          | (refine wl_load26 rfl _ rfl w.heap.size rfl H S0.out hHl ?_))
        refine (C2.out _ B2.out).mono ?_
        rintro e w3 ⟨rfl, hb3⟩
        have B3 : Hid (Below w.heap.size w w3) := B2.out.trans (hb3.mono B2.out.size)
        have T2 : Hid (w3.heap[w2.heap.size]? = some (.cells (cv V M) 30 (0, 0))) := (hb3.block _ (Array.getElem?_eq_some_iff.1 S2.out).1).trans S2.out
        obtain ⟨gc, hgc⟩ : ∃ gc, gc = w2.heap.size := ⟨_, rfl⟩
        rw [← hgc] at T2 ⊢
        clear hb3 S0 S2 B2 hgc
        go_wp2_with fail
        go_ret
        exact ⟨by simp, B3.out⟩
  · have c1 := fun W hW => about_no l K.ok (.slice o n cap) H hH hF W hW
    have c2 := fun W hW => rfirst_no l K.ok (.slice o n cap) H hH hF W hW
    have C1 : Hid (∀ W, Below w.heap.size w W → Calls Try.prog 11 #[.slice o n cap, .agg (hv H)] W fun e w' => e = .returned (.tuple #[.agg (cv Z Z), .int .i64 0, .bool false]) ∧ Below W.heap.size W w') := fun W hb => c1 W (GSl.below K.at_ hb)
    have C2 : Hid (∀ W, Below w.heap.size w W → Calls Try.prog 14 #[.slice o n cap, .agg (hv H)] W fun e w' => e = .returned (.int .i64 (-1)) ∧ Below W.heap.size W w') := fun W hb => c2 W (GSl.below K.at_ hb)
    have hVl : Z.length = 13 := Z_byt.1
    have hMl := hVl
    clear K hl0 hok0 c1 c2 hF hH
    go_enter Try.func6, Try.ntmps6
    go_wp2_with fail
    refine (AW.out _).mono ?_
    rintro e w1 ⟨rfl, hb1⟩
    have R0 : Hid (w1.heap[w.heap.size]? = some (.cells (hv H) 28 (0, 0))) := (hb1.block _ (by simp)).trans K0.out
    have B1 : Hid (Below w.heap.size w w1) := B0.out.trans (hb1.mono B0.out.size)
    clear hb1 K0 B0
    go_wp2_with (first | (refine wl_min7 rfl _ _ rfl (n0 : Int) 40 (n : Int) rfl rfl HNM.out ?_) | (refine wl_load26 rfl _ rfl w.heap.size rfl H R0.out hHl ?_))
    refine (C1.out _ B1.out).mono ?_
    rintro e w2 ⟨rfl, hb2⟩
    have hbw := B1.out.trans (hb2.mono B1.out.size)
    have B2 : Hid (Below w.heap.size w (w2.alloc (.cells (cv Z Z) 30))) := hbw.alloc hbw.size _
    have S0 : Hid ((w2.alloc (.cells (cv Z Z) 30)).heap[w.heap.size]? = some (.cells (hv H) 28 (0, 0))) := heap_past _ _ _ _ ((hb2.block _ (Array.getElem?_eq_some_iff.1 R0.out).1).trans R0.out)
    have S2 : Hid ((w2.alloc (.cells (cv Z Z) 30)).heap[w2.heap.size]? = some (.cells (cv Z Z) 30 (0, 0))) := heap_new _ _ _ rfl
    clear hb2 hbw R0 B1
    go_wp2_with (first
      | (refine wl_storeC rfl _ _ rfl w2.heap.size Z Z rfl rfl _ (heap_new _ _ _ rfl) rfl hVl hMl _ (setRow_new _ _ _ _ _ rfl) ?_)
      | (refine wl_load26 rfl _ rfl w.heap.size rfl H S0.out hHl ?_))
    refine (C2.out _ B2.out).mono ?_
    rintro e w3 ⟨rfl, hb3⟩
    have B3 : Hid (Below w.heap.size w w3) := B2.out.trans (hb3.mono B2.out.size)
    have T2 : Hid (w3.heap[w2.heap.size]? = some (.cells (cv Z Z) 30 (0, 0))) := (hb3.block _ (Array.getElem?_eq_some_iff.1 S2.out).1).trans S2.out
    obtain ⟨gc, hgc⟩ : ∃ gc, gc = w2.heap.size := ⟨_, rfl⟩
    rw [← hgc] at T2 ⊢
    clear hb3 S0 S2 B2 hgc
    go_wp2_with fail
    go_ret
    exact ⟨by simp, B3.out⟩
end Go.Proofs.Ytdibjhlckjjlfaa
namespace Go.Proofs.Ytdibjhlckjjlfaa
open Go Go.RowKit
set_option maxRecDepth 20000

theorem addr_form15 (g off j : Nat) : (⟨g, off, none⟩ : Addr).add j = ⟨g, off + j, none⟩ := by unfold Addr.add; split <;> simp_all
theorem gcells_size15 {α : Type} (enc : α → Array Value) (n : Nat) : ∀ (C : List α), (∀ c ∈ C, (enc c).size = n) → (gcells enc C).length = C.length * n
  | [], _ => by simp [gcells]
  | c :: C, h => by
    rw [gcells_cons, List.length_append, Array.length_toList, h c (by simp), gcells_size15 enc n C fun d hd => h d (by simp [hd]), List.length_cons, Nat.add_mul, Nat.one_mul, Nat.add_comm]
/-- Rules, wherever they lie, appended to a row of one's own. -/
theorem wl_appR15 {ops : Array Oper} {rest : List Oper} {o : Oper} {a : Act} {w : World} {Q : Exit → Act → World → Prop} (hgd : o.guard = none) (s x : Operand) (ho : o.op = .call { callee := .builtin .append, args := #[s, x], argTypes := #[22, 22] })
    (B : Nat) (v u : Value) (C D : List RuleM) (hs : a.eval s = v) (hC : w.ownsRow B 37 28 v C.length (gcells ruleV C)) (hx : a.eval x = u) (hD : RulesAt w u D) (hok : ∀ r ∈ D, okR8 r) (hD0 : 0 < D.length) (hn : C.length + D.length ≤ 1000000) (hB : B ≤ w.heap.size)
    (h : ∀ v' w', w'.ownsRow B 37 28 v' (C ++ D).length (gcells ruleV (C ++ D)) → w.grownBy w' v.ownBlock → wpList Try.prog ops Q rest (a.put o.dst v') w') : wpList Try.prog ops Q (o :: rest) a w := by
  obtain ⟨i0, hi, hz0, hz1, hz2⟩ := RuleOk.info
  obtain ⟨oa, cap, rfl, hc1, hc2, hc3⟩ := hD
  obtain ⟨g, off, cur, t, fr, rfl, hg, _⟩ := hc3 0 hD0
  have hrow : ∀ r ∈ D, (ruleV r).size = 28 := fun r hr => ruleV_size (hok r hr)
  have hlen := gcells_size15 ruleV 28 D hrow
  refine wpList_append_own_at _ hgd s x 22 ho B 37 i0 (.agg RuleE.zero) 28 48 Try.underlying22 hi hz0 hz1 hz2 RuleOk.hz (by decide) v _ _ hs hC ⟨g, off, none⟩ D.length cap (gcells ruleV D) hx hlen ?_ ?_ (by unfold maxLen; omega) (by omega) hB ?_
  · intro j y hj
    have hjl := (List.getElem?_eq_some_iff.1 hj).1
    rw [hlen] at hjl
    have hk : j / 28 < D.length := Nat.div_lt_of_lt_mul (by rw [Nat.mul_comm]; exact hjl)
    obtain ⟨g2, off2, cur2, t2, fr2, e, h5, h6⟩ := hc3 (j / 28) hk
    obtain ⟨rfl, rfl⟩ : g = g2 ∧ off = off2 := by
      have := Option.some.inj e
      simpa using this
    have hr : j % 28 < 28 := Nat.mod_lt _ (by decide)
    have ej : j = 28 * (j / 28) + j % 28 := (Nat.div_add_mod j 28).symm
    have h7 := gcells_at ruleV 28 D hrow (j / 28) hk (j % 28) hr
    rw [← ej, hj] at h7
    have h8 := h6 (j % 28) hr
    rw [← h7] at h8
    rw [addr_form15, cell_of_row _ _ _ _ _ _ h5, ← h8]
    congr 1
    show off + j = off + j / 28 * 28 + j % 28
    omega
  · intro y hy
    unfold gcells at hy
    obtain ⟨p, hp, hy⟩ := List.mem_flatMap.1 hy
    exact (Array.all_eq_true_iff_forall_mem.1 (rule_fits (hok p hp)).2) y (by simpa using hy)
  · intro v' w' h1 h2 h3 h4
    refine h v' w' ?_ h2
    rw [gcells_append, List.length_append]
    exact h1
set_option maxRecDepth 100000 in
theorem build_rA (V M : List Int) (hV : V.length = 13) (hM : M.length = 13) (a : Int) (W : World) : (Instr.build 37 #[(1, .agg (cv V M)), (2, .int .i64 a)]).run Try.prog W = .ok (.agg (ruleV ⟨0, (V, M), a⟩)) W := by
  obtain ⟨a0, a1, a2, a3, a4, a5, a6, a7, a8, a9, a10, a11, a12, rfl⟩ := list13 hV
  obtain ⟨b0, b1, b2, b3, b4, b5, b6, b7, b8, b9, b10, b11, b12, rfl⟩ := list13 hM
  kernel_rfl
theorem first_head {l : List RuleM} {G : List Int} {r : RuleM} (h : has r.cube.1 r.cube.2 G = true) : FirstA (r :: l) G 0 r := ⟨rfl, h, fun x hx => by simp [cubsA] at hx⟩
set_option maxHeartbeats 16000000 in
set_option maxRecDepth 100000 in
theorem lawATwice_any (l0 : List RuleM) (hok0 : ∀ r ∈ l0, okR8 r) (vl : Value) (H G : List Int) (hH : Byt H) (hG : Byt G) (w : World) (hl0 : RulesAt w vl l0) :
    Calls Try.prog 7 #[vl, .agg (hv H), .agg (hv G)] w fun e w' => e = .returned (.bool true) ∧ Below w.heap.size w w' := by
  obtain ⟨o, n0, n, cap, l, rfl, K⟩ := cut40 hok0 hl0
  have hc1 := K.cap1
  have hc2 := K.cap2
  unfold maxLen at hc2
  have hn0' := K.le
  have HNM : Hid ((n : Int) = min (n0 : Int) 40) := K.min
  have hsl := K.slice
  have AW : Hid (∀ W, Calls Try.prog 8 #[] W fun e w' => e = .returned (.bool true) ∧ Below W.heap.size W w') := fun W => awake15_any W
  have hHl := hH.1
  have hGl := hG.1
  have K0 : Hid (((w.alloc (.cells (hv H) 28)).alloc (.cells (hv G) 28)).heap[w.heap.size]? = some (.cells (hv H) 28 (0, 0))) := heap_past _ _ _ _ (heap_new _ _ _ rfl)
  have K1 : Hid (((w.alloc (.cells (hv H) 28)).alloc (.cells (hv G) 28)).heap[w.heap.size + 1]? = some (.cells (hv G) 28 (0, 0))) := heap_new _ _ _ (by simp)
  have B0 : Hid (Below w.heap.size w ((w.alloc (.cells (hv H) 28)).alloc (.cells (hv G) 28))) := ((Below.refl _ _).alloc (Nat.le_refl _) _).alloc (by simp) _
  rcases first_or l H with ⟨p, r, hF⟩ | hF
  · obtain ⟨_, _, _, hR, _⟩ := about_ok (A := cubsA (l.take p)) (K.ok r hF.mem).2 hF.has_ hF.ahead
    have c1 := fun W hW => about_yes l K.ok (by have := K.le40; omega) (.slice o n cap) H hH p r hF W hW
    have hl1 : 0 < l.length := Nat.lt_of_le_of_lt (Nat.zero_le _) hF.lt
    obtain ⟨V, M, hVM⟩ : ∃ V M, aboutA (cubsA (l.take p)) r.cube H = (V, M) := ⟨_, _, rfl⟩
    rw [hVM] at hR
    simp only [hVM] at c1
    have hVl := hR.1.1
    have hMl := hR.2.1.1
    obtain ⟨ac, hac⟩ : ∃ ac, ac = r.action := ⟨_, rfl⟩
    simp only [← hac] at c1
    obtain ⟨r0, hr0⟩ : ∃ r0 : RuleM, r0 = ⟨0, (V, M), ac⟩ := ⟨_, rfl⟩
    have hok : okR8 r0 := by rw [hr0]; exact ⟨hR.1, hR.2.1⟩
    have hokm : ∀ x ∈ r0 :: l, okR8 x := fun x hx => by
      rcases List.mem_cons.1 hx with rfl | hx
      · exact hok
      · exact K.ok x hx
    have br := build_rA V M hVl hMl ac
    rw [← hr0] at br
    have hact : (ruleV r0)[27]? = some (.int .i64 ac) := by rw [(rule_at hok).2.2, hr0]
    have hcan : can V M = V := rightA_can (c := (V, M)) hR
    have h40 := K.le40
    have C1 : Hid (∀ W, Below w.heap.size w W → Calls Try.prog 11 #[.slice o n cap, .agg (hv H)] W fun e w' => e = .returned (.tuple #[.agg (cv V M), .int .i64 ac, .bool true]) ∧ Below W.heap.size W w') := fun W hb => c1 W (GSl.below K.at_ hb)
    obtain ⟨z, hz⟩ : ∃ z, z = has V M G := ⟨_, rfl⟩
    have C6 : Hid (∀ W, Calls Try.prog 16 #[.agg (cv V M), .agg (hv G)] W fun e w' => e = .returned (.bool z) ∧ Below W.heap.size W w') := fun W => by rw [hz]; exact has_any V M G hR.1 hR.2.1 hG W
    have C7 : Hid (z = true → ∀ v W, RulesAt W v (r0 :: l) → Calls Try.prog 11 #[v, .agg (hv G)] W fun e w' => e = .returned (.tuple #[.agg (cv V M), .int .i64 ac, .bool true]) ∧ Below W.heap.size W w') := fun h v W hW => by
      have hF2 : FirstA (r0 :: l) G 0 r0 := first_head (by rw [hr0]; exact hz ▸ h)
      have := about_yes (r0 :: l) hokm (by simp; omega) v G hG 0 r0 hF2 W hW
      have e1 : cubsA ((r0 :: l).take 0) = [] := rfl
      rw [e1, about_nil, hr0] at this
      dsimp only at this
      rwa [hcan] at this
    have C8 : Hid (z = true → ∀ v W, RulesAt W v (r0 :: l) → Calls Try.prog 15 #[v, .agg (hv G)] W fun e w' => e = .returned (.tuple #[.agg (ruleV r0), .bool true]) ∧ Below W.heap.size W w') := fun h v W hW => by
      have hF2 : FirstA (r0 :: l) G 0 r0 := first_head (by rw [hr0]; exact hz ▸ h)
      have := look_any (r0 :: l) hokm v G hG W hW
      rwa [hF2.look] at this
    have HAT : Hid (∀ W, Below w.heap.size w W → RulesAt W (.slice o n cap) l) := fun W hb => GSl.below K.at_ hb
    have HOKL : Hid (∀ x ∈ l, okR8 x) := K.ok
    have HOKM : Hid (∀ x ∈ r0 :: l, okR8 x) := hokm
    have HOK : Hid (okR8 r0) := hok
    have hs0 := ruleV_size hok
    have eq0 : ∀ w, (Op.equalIn 10000 30 (.agg (cv V M)) (.agg (cv V M))).run Try.prog w = .ok true w := fun w => by rw [eqC _ _ _ _ hVl hMl hVl hMl]; simp
    have eg : ∀ op x y (xs ys : Array Value) w, (eqGuard op 30 x y (.agg xs) (.agg ys)).run Try.prog w = .ok () w := egC
    have HACT : Hid ((ruleV r0)[27]? = some (.int .i64 ac)) := hact
    clear K hl0 hok0 c1 hF hR hVM hz hH hG hokm hok hr0 hac hcan hact
    go_enter Try.func7, Try.ntmps7
    go_wp2_with fail
    refine (AW.out _).mono ?_
    rintro e w1 ⟨rfl, hb1⟩
    have R0 : Hid (w1.heap[w.heap.size]? = some (.cells (hv H) 28 (0, 0))) := (hb1.block _ (by simp; omega)).trans K0.out
    have R1 : Hid (w1.heap[w.heap.size + 1]? = some (.cells (hv G) 28 (0, 0))) := (hb1.block _ (by simp)).trans K1.out
    have B1 : Hid (Below w.heap.size w w1) := B0.out.trans (hb1.mono B0.out.size)
    clear hb1 K0 K1 B0
    go_wp2_with (first | (refine wl_min7 rfl _ _ rfl (n0 : Int) 40 (n : Int) rfl rfl HNM.out ?_) | (refine wl_load26 rfl _ rfl w.heap.size rfl H R0.out hHl ?_))
    refine (C1.out _ B1.out).mono ?_
    rintro e w2 ⟨rfl, hb2⟩
    have hbw := B1.out.trans (hb2.mono B1.out.size)
    have B2 : Hid (Below w.heap.size w (w2.alloc (.cells (cv V M) 30))) := hbw.alloc hbw.size _
    have S1 : Hid ((w2.alloc (.cells (cv V M) 30)).heap[w.heap.size + 1]? = some (.cells (hv G) 28 (0, 0))) := heap_past _ _ _ _ ((hb2.block _ (Array.getElem?_eq_some_iff.1 R1.out).1).trans R1.out)
    obtain ⟨gc, hgc⟩ : ∃ gc, gc = w2.heap.size := ⟨_, rfl⟩
    have S2 : Hid ((w2.alloc (.cells (cv V M) 30)).heap[gc]? = some (.cells (cv V M) 30 (0, 0))) := heap_new _ _ _ hgc
    clear hb2 hbw R0 R1 B1
    go_wp2_with (first
      | (refine wl_storeC rfl _ _ rfl w2.heap.size V M rfl rfl _ (heap_new _ _ _ rfl) rfl hVl hMl _ (setRow_new _ _ _ _ _ rfl) ?_; refine of_stopT ?_))
    unfold StopT
    obtain ⟨w3, hw3⟩ : ∃ w3, w3 = w2.alloc (.cells (cv V M) 30) := ⟨_, rfl⟩
    rw [← hw3] at B2 S1 S2 ⊢
    rw [← hgc]
    clear hw3 hgc
    go_wp2_with (first
      | (refine wl_loadCw rfl _ rfl gc 0 rfl _ _ _ V M hVl hMl S2.out (own_cells _ _) ?_)
      | (refine wl_load26w rfl _ rfl (w.heap.size + 1) rfl G S1.out hGl ?_))
    refine (C6.out _).mono ?_
    rintro e w4 ⟨rfl, hb4⟩
    have B4 : Hid (Below w.heap.size w w4) := B2.out.trans (hb4.mono B2.out.size)
    have T1 : Hid (w4.heap[w.heap.size + 1]? = some (.cells (hv G) 28 (0, 0))) := (hb4.block _ (Array.getElem?_eq_some_iff.1 S1.out).1).trans S1.out
    have T2 : Hid (w4.heap[gc]? = some (.cells (cv V M) 30 (0, 0))) := (hb4.block _ (Array.getElem?_eq_some_iff.1 S2.out).1).trans S2.out
    clear hb4 S1 S2 B2
    cases z with
    | false =>
      go_wp2_with fail
      go_ret
      exact ⟨rfl, B4.out⟩
    | true =>
      have D7 : Hid (∀ v W, RulesAt W v (r0 :: l) → Calls Try.prog 11 #[v, .agg (hv G)] W fun e w' => e = .returned (.tuple #[.agg (cv V M), .int .i64 ac, .bool true]) ∧ Below W.heap.size W w') := C7.out rfl
      have D8 : Hid (∀ v W, RulesAt W v (r0 :: l) → Calls Try.prog 15 #[v, .agg (hv G)] W fun e w' => e = .returned (.tuple #[.agg (ruleV r0), .bool true]) ∧ Below W.heap.size W w') := C8.out rfl
      have hb5 : Below w4.heap.size w4 (w4.alloc (.cells (ruleV r0) RuleE.elem)) := (Below.refl _ _).alloc (Nat.le_refl _) _
      have B5 : Hid (Below w.heap.size w (w4.alloc (.cells (ruleV r0) RuleE.elem))) := B4.out.trans (hb5.mono B4.out.size)
      have OA : Hid ((w4.alloc (.cells (ruleV r0) RuleE.elem)).ownsRow w4.heap.size 37 28 (.slice (some ⟨w4.heap.size, 0, none⟩) 1 1) [r0].length (gcells ruleV [r0])) := by
        have h := World.ownsRow_lit (base := w4.heap.size) (e := RuleE.elem) (size := 28) w4 (ruleV r0) 1 (Nat.le_refl _) (by unfold maxLen; omega) (by simp [hs0])
        have e : gcells ruleV [r0] = (ruleV r0).toList := gcells_one ruleV r0
        show World.ownsRow _ _ _ _ _ _ _
        rw [e]
        exact h
      have RA : Hid (RulesAt (w4.alloc (.cells (ruleV r0) RuleE.elem)) (.slice o n cap) l) := HAT.out _ B5.out
      have V1 : Hid ((w4.alloc (.cells (ruleV r0) RuleE.elem)).heap[w.heap.size + 1]? = some (.cells (hv G) 28 (0, 0))) := heap_past _ _ _ _ T1.out
      have V2 : Hid ((w4.alloc (.cells (ruleV r0) RuleE.elem)).heap[gc]? = some (.cells (cv V M) 30 (0, 0))) := heap_past _ _ _ _ T2.out
      have ht1 := (Array.getElem?_eq_some_iff.1 T1.out).1
      clear hb5 C7 C8 C6 C1 AW T1
      go_wp2_with (first
        | (refine wl_loadCw rfl _ rfl gc 0 rfl _ _ _ V M hVl hMl T2.out (own_cells _ _) ?_)
        | (refine wl_buildAny15 rfl _ _ rfl #[(1, .agg (cv V M)), (2, .int .i64 ac)] (by simp only [List.map_toArray, List.map_cons, List.map_nil]; rfl) (.agg (ruleV r0)) (br _) ?_)
        | (refine wl_buildE (E := RuleE) RuleOk rfl _ rfl (ruleV r0) hs0 rfl ?_)
        | (at_builtin; refine of_stopped ?_))
      unfold Stopped
      refine wl_appR15 rfl _ _ rfl w4.heap.size _ _ [r0] l rfl OA.out rfl RA.out HOKL.out hl1 (by simp; omega) (by simp) ?_
      intro v' w5 hown hgr
      have B6 : Hid (Below w4.heap.size (w4.alloc (.cells (ruleV r0) RuleE.elem)) w5) := (Below.refl _ _).grown hgr (by simp) fun q hq => (OA.out.lt q hq).1
      have B7 : Hid (Below w.heap.size w w5) := B5.out.trans (B6.out.mono B4.out.size)
      have RM : Hid (RulesAt w5 v' (r0 :: l)) := RulesAt.own15 HOKM.out hown
      have X1 : Hid (w5.heap[w.heap.size + 1]? = some (.cells (hv G) 28 (0, 0))) := by
        exact (B6.out.block _ ht1).trans V1.out
      have X2 : Hid (w5.heap[gc]? = some (.cells (cv V M) 30 (0, 0))) := (B6.out.block _ (Array.getElem?_eq_some_iff.1 T2.out).1).trans V2.out
      clear hown hgr OA RA V1 V2 T2 B6 B5 B4
      simp only [Act.put, List.setIfInBounds_toArray, List.set_cons_succ, List.set_cons_zero]
      go_wp2_with (first
        | (refine wl_load26 rfl _ rfl (w.heap.size + 1) rfl G X1.out hGl ?_))
      refine (D7.out _ _ RM.out).mono ?_
      rintro e w6 ⟨rfl, hb6⟩
      have hbw := B7.out.trans (hb6.mono B7.out.size)
      have B8 : Hid (Below w.heap.size w (w6.alloc (.cells (cv V M) 30))) := hbw.alloc hbw.size _
      have Y1 : Hid ((w6.alloc (.cells (cv V M) 30)).heap[w.heap.size + 1]? = some (.cells (hv G) 28 (0, 0))) := heap_past _ _ _ _ ((hb6.block _ (Array.getElem?_eq_some_iff.1 X1.out).1).trans X1.out)
      have Y2 : Hid ((w6.alloc (.cells (cv V M) 30)).heap[gc]? = some (.cells (cv V M) 30 (0, 0))) := heap_past _ _ _ _ ((hb6.block _ (Array.getElem?_eq_some_iff.1 X2.out).1).trans X2.out)
      obtain ⟨gd, hgd⟩ : ∃ gd, gd = w6.heap.size := ⟨_, rfl⟩
      have Y3 : Hid ((w6.alloc (.cells (cv V M) 30)).heap[gd]? = some (.cells (cv V M) 30 (0, 0))) := heap_new _ _ _ hgd
      have RY : Hid (RulesAt (w6.alloc (.cells (cv V M) 30)) v' (r0 :: l)) := GSl.below (GSl.below RM.out hb6) ((Below.refl _ _).alloc (Nat.le_refl _) _)
      clear hb6 hbw X1 X2 RM B7
      go_wp2_with (first
        | (refine wl_storeC rfl _ _ rfl w6.heap.size V M rfl rfl _ (heap_new _ _ _ rfl) rfl hVl hMl _ (setRow_new _ _ _ _ _ rfl) ?_; refine of_stopT ?_))
      unfold StopT
      obtain ⟨w7, hw7⟩ : ∃ w7, w7 = w6.alloc (.cells (cv V M) 30) := ⟨_, rfl⟩
      rw [← hw7] at B8 Y1 Y2 Y3 RY ⊢
      rw [← hgd]
      clear hw7 hgd
      go_wp2_with (first
        | (refine wl_load26 rfl _ rfl (w.heap.size + 1) rfl G Y1.out hGl ?_))
      refine (D8.out _ _ RY.out).mono ?_
      rintro e w8 ⟨rfl, hb8⟩
      have hbw := B8.out.trans (hb8.mono B8.out.size)
      have B9 : Hid (Below w.heap.size w (w8.alloc (.cells (ruleV r0) 37))) := hbw.alloc hbw.size _
      have Z2 : Hid ((w8.alloc (.cells (ruleV r0) 37)).heap[gc]? = some (.cells (cv V M) 30 (0, 0))) := heap_past _ _ _ _ ((hb8.block _ (Array.getElem?_eq_some_iff.1 Y2.out).1).trans Y2.out)
      have Z3 : Hid ((w8.alloc (.cells (ruleV r0) 37)).heap[gd]? = some (.cells (cv V M) 30 (0, 0))) := heap_past _ _ _ _ ((hb8.block _ (Array.getElem?_eq_some_iff.1 Y3.out).1).trans Y3.out)
      obtain ⟨gx, hgx⟩ : ∃ gx, gx = w8.heap.size := ⟨_, rfl⟩
      have Z4 : Hid ((w8.alloc (.cells (ruleV r0) 37)).heap[gx]? = some (.cells (ruleV r0) 37 (0, 0))) := heap_new _ _ _ hgx
      clear hb8 hbw Y1 Y2 Y3 RY B8
      go_wp2_with (first
        | (refine wl_storeE (E := RuleE) RuleOk rfl _ _ rfl w8.heap.size (ruleV r0) (rule_fits HOK.out) rfl rfl _ (heap_new _ _ _ rfl) rfl _ (setRow_new _ _ _ _ _ rfl) ?_; refine of_stopT ?_))
      unfold StopT
      obtain ⟨w9, hw9⟩ : ∃ w9, w9 = w8.alloc (.cells (ruleV r0) 37) := ⟨_, rfl⟩
      rw [← hw9] at B9 Z2 Z3 Z4 ⊢
      rw [← hgx]
      have c27 : w9.cell? ⟨gx, 27, none⟩ = some (.int .i64 ac) := (cell_of_row _ _ _ _ _ _ Z4.out).trans HACT.out
      clear hw9 hgx
      go_wp2_with (first
        | (refine wl_loadCw rfl _ rfl gd 0 rfl _ _ _ V M hVl hMl Z3.out (own_cells _ _) ?_)
        | (refine wl_loadCw rfl _ rfl gc 0 rfl _ _ _ V M hVl hMl Z2.out (own_cells _ _) ?_))
      go_ret
      exact ⟨by simp, B9.out⟩
  · have c1 := fun W hW => about_no l K.ok (.slice o n cap) H hH hF W hW
    have C1 : Hid (∀ W, Below w.heap.size w W → Calls Try.prog 11 #[.slice o n cap, .agg (hv H)] W fun e w' => e = .returned (.tuple #[.agg (cv Z Z), .int .i64 0, .bool false]) ∧ Below W.heap.size W w') := fun W hb => c1 W (GSl.below K.at_ hb)
    clear K hl0 hok0 c1 hF hH hG
    go_enter Try.func7, Try.ntmps7
    go_wp2_with fail
    refine (AW.out _).mono ?_
    rintro e w1 ⟨rfl, hb1⟩
    have R0 : Hid (w1.heap[w.heap.size]? = some (.cells (hv H) 28 (0, 0))) := (hb1.block _ (by simp; omega)).trans K0.out
    have B1 : Hid (Below w.heap.size w w1) := B0.out.trans (hb1.mono B0.out.size)
    clear hb1 K0 K1 B0
    go_wp2_with (first | (refine wl_min7 rfl _ _ rfl (n0 : Int) 40 (n : Int) rfl rfl HNM.out ?_) | (refine wl_load26 rfl _ rfl w.heap.size rfl H R0.out hHl ?_))
    refine (C1.out _ B1.out).mono ?_
    rintro e w2 ⟨rfl, hb2⟩
    have hbw := B1.out.trans (hb2.mono B1.out.size)
    have B2 : Hid (Below w.heap.size w (w2.alloc (.cells (cv Z Z) 30))) := hbw.alloc hbw.size _
    clear hb2 hbw R0 B1
    go_wp2_with (first
      | (refine wl_storeC rfl _ _ rfl w2.heap.size Z Z rfl rfl _ (heap_new _ _ _ rfl) rfl Z_byt.1 Z_byt.1 _ (setRow_new _ _ _ _ _ rfl) ?_))
    go_ret
    exact ⟨rfl, B2.out⟩
end Go.Proofs.Ytdibjhlckjjlfaa
