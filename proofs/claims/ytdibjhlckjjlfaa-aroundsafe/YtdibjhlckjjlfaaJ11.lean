import Derived.Test.YtdibjhlckjjlfaaJ9
namespace Go.Proofs.Ytdibjhlckjjlfaa
open Go Go.RowKit
set_option maxRecDepth 20000

/-! The reference's About. -/
theorem rabout_no (l : List RuleM) (hl0 : ∀ r ∈ l, okR8 r) (vl : Value) (H : List Int) (hH : Byt H) (hF : ∀ x ∈ l, hasR H x = false) (w : World) (hl : RulesAt w vl l) :
    Calls Try.prog 12 #[vl, .agg (hv H)] w fun e w' => e = .returned (.tuple #[.agg (cv Z Z), .int .i64 0, .bool false]) ∧ Below w.heap.size w w' := by
  have hHl := hH.1
  have HLK : Hid (∀ W, Below w.heap.size w W → Calls Try.prog 14 #[vl, .agg (hv H)] W fun e w' => e = .returned (.int .i64 (-1)) ∧ Below W.heap.size W w') := fun W hb => rfirst_no l hl0 vl H hH hF W (GSl.below hl hb)
  have K0 : Hid (((w.alloc (.cells (hv H) 28)).alloc (.cells zeroC 30)).heap[w.heap.size]? = some (.cells (hv H) 28 (0, 0))) := heap_past _ _ _ _ (heap_new _ _ _ rfl)
  have K1 : Hid (((w.alloc (.cells (hv H) 28)).alloc (.cells zeroC 30)).heap[w.heap.size + 1]? = some (.cells zeroC 30 (0, 0))) := heap_new _ _ _ (by simp)
  have B0 : Hid (Below w.heap.size w ((w.alloc (.cells (hv H) 28)).alloc (.cells zeroC 30))) := ((Below.refl _ _).alloc (Nat.le_refl _) _).alloc (by simp) _
  clear hl hl0 hF hH
  go_enter Try.func12, Try.ntmps12
  go_wp2_with (first
    | (refine wl_load26 rfl _ rfl w.heap.size rfl H K0.out hHl ?_))
  refine (HLK.out _ B0.out).mono ?_
  rintro e w1 ⟨rfl, hb1⟩
  have B1 : Hid (Below w.heap.size w w1) := B0.out.trans (hb1.mono B0.out.size)
  have R1 : Hid (w1.heap[w.heap.size + 1]? = some (.cells zeroC 30 (0, 0))) := (hb1.block _ (by simp)).trans K1.out
  clear hb1 K0 K1 B0
  go_wp2_with (first
    | (refine wl_storeC rfl _ _ rfl (w.heap.size + 1) Z Z rfl (by rw [← zeroC_eq]; rfl) _ R1.out rfl Z_byt.1 Z_byt.1 _ rfl ?_))
  refine retC15 (p := 4) (u := 5) (t := 6) rfl rfl (w.heap.size + 1) rfl Z Z Z_byt.1 Z_byt.1 (setRow_heap _ _ _ _ _ _ R1.out) _ _ rfl rfl ⟨rfl, ?_⟩
  exact below_setRow B1.out (by omega) _
theorem cubs_at {l : List RuleM} {k p : Nat} {x : RuleM} (hk : k < p) (hx : l[k]? = some x) : (cubsA (l.take p))[k]? = some x.cube := by
  unfold cubsA
  rw [List.getElem?_map, List.getElem?_take_of_lt hk, hx]; rfl
theorem cubs_len {l : List RuleM} {p : Nat} (hp : p ≤ l.length) : (cubsA (l.take p)).length = p := by
  unfold cubsA
  rw [List.length_map, List.length_take]; omega
theorem vI_eq1 (H : List Int) (i : Nat) : (vI H i == 1) = bt H i := by
  unfold vI
  cases bt H i <;> rfl
theorem vI_ne2 (H : List Int) (i : Nat) : (vI H i != 2) = true := by
  unfold vI
  cases bt H i <;> rfl
theorem at_three (V M : List Int) (k : Nat) : (bt M k = true ∧ (atI V M k = 0 ∨ atI V M k = 1)) ∨ (bt M k = false ∧ atI V M k = 2) := by
  unfold atI
  cases bt M k <;> cases bt V k <;> simp
/-- Worlds with a cube and the rules' row in these blocks. -/
structure KeepR (gc g : Nat) (U N : List Int) (cur : Array Value) (ty : TypeId) (fr : Nat × Nat) where
  world : World
  k1 : world.heap[gc]? = some (.cells (cv U N) 30 (0, 0))
  k2 : world.heap[g]? = some (.cells cur ty fr)
abbrev InR15 (gc g : Nat) (U N : List Int) (cur : Array Value) (ty : TypeId) (fr : Nat × Nat) (w : World) : Prop := ∃ z : KeepR gc g U N cur ty fr, w = z.world
theorem InR15.of {gc g : Nat} {U N : List Int} {cur : Array Value} {ty : TypeId} {fr : Nat × Nat} {w : World} (h1 : w.heap[gc]? = some (.cells (cv U N) 30 (0, 0))) (h2 : w.heap[g]? = some (.cells cur ty fr)) : InR15 gc g U N cur ty fr w := ⟨⟨w, h1, h2⟩, rfl⟩
set_option maxHeartbeats 16000000 in
theorem rabout_yes (l : List RuleM) (hl0 : ∀ r ∈ l, okR8 r) (hn1 : l.length ≤ 100000) (vl : Value) (H : List Int) (hH : Byt H) (p : Nat) (r : RuleM) (hF : FirstA l H p r) (w : World) (hl : RulesAt w vl l) :
    Calls Try.prog 12 #[vl, .agg (hv H)] w fun e w' => e = .returned (.tuple #[.agg (cv (aboutA (cubsA (l.take p)) r.cube H).1 (aboutA (cubsA (l.take p)) r.cube H).2), .int .i64 r.action, .bool true]) ∧ Below w.heap.size w w' := by
  have hHl := hH.1
  have hr := hl0 r hF.mem
  have HR : Hid (okR8 r) := hr
  have HHH : Hid (Byt H) := hH
  have HLK : Hid (∀ W, Below w.heap.size w W → Calls Try.prog 14 #[vl, .agg (hv H)] W fun e w' => e = .returned (.int .i64 (p : Int)) ∧ Below W.heap.size W w') := fun W hb => rfirst_yes l hl0 vl H hH p r hF W (GSl.below hl hb)
  have HCA : Hid (∀ W, Calls Try.prog 28 #[.agg (cv r.cube.1 r.cube.2)] W fun e w' => e = .returned (.agg (cv (can r.cube.1 r.cube.2) r.cube.2)) ∧ Below W.heap.size W w') := fun W => rcanon_any r.cube.1 r.cube.2 hr.1 hr.2 W
  have HCL : Hid (∀ (V M : List Int) W, Byt V → Byt M → Below w.heap.size w W → Calls Try.prog 17 #[vl, .int .i64 (p : Int), .agg (cv V M)] W fun e w' => e = .returned (.bool (clearA (cubsA (l.take p)) (V, M))) ∧ Below W.heap.size W w') := fun V M W h1 h2 hb => clear_any l hl0 vl V M h1 h2 p (Nat.le_of_lt hF.lt) W (GSl.below hl hb)
  have HAT : Hid (∀ k : Nat, k < 104 → ∀ W, Calls Try.prog 19 #[.agg (cv r.cube.1 r.cube.2), .int .i64 (k : Int)] W fun e w' => e = .returned (.int .i64 (atI r.cube.1 r.cube.2 k)) ∧ Below W.heap.size W w') := fun k hk W => at_any r.cube.1 r.cube.2 hr.1 hr.2 k hk W
  have hRc := rightA_of r.cube.1 r.cube.2 hr.2
  have hcH : has (can r.cube.1 r.cube.2) r.cube.2 H = true := inA_has (can_inv r.cube.1 r.cube.2) hF.has_
  have HK : Hid (∀ k, has (narsA H (can r.cube.1 r.cube.2, r.cube.2) ((cubsA (l.take p)).take k)).1 (narsA H (can r.cube.1 r.cube.2, r.cube.2) ((cubsA (l.take p)).take k)).2 H = true ∧ rightA (narsA H (can r.cube.1 r.cube.2, r.cube.2) ((cubsA (l.take p)).take k))) := nars_keep hcH hF.ahead hRc
  have HKW : Hid (∀ k, rightA (widsA (cubsA (l.take p)) r.cube.2 k (narsA H (can r.cube.1 r.cube.2, r.cube.2) (cubsA (l.take p))))) := fun k => wids_right (by
    have := (nars_keep hcH hF.ahead hRc p).2
    rwa [List.take_of_length_le (by rw [cubs_len (Nat.le_of_lt hF.lt)]; exact Nat.le_refl _)] at this) k
  have HAL : Hid ((cubsA (l.take p)).length = p) := cubs_len (Nat.le_of_lt hF.lt)
  have HBE : Hid (∀ j x, j < p → l[j]? = some x → has x.cube.1 x.cube.2 H = false) := fun j x hj hx => hF.before hj hx
  have HAE : Hid (aboutA (cubsA (l.take p)) r.cube H = widsA (cubsA (l.take p)) r.cube.2 104 (narsA H (can r.cube.1 r.cube.2, r.cube.2) (cubsA (l.take p)))) := rfl
  have HAT2 : Hid (∀ k x, k < p → l[k]? = some x → (cubsA (l.take p))[k]? = some x.cube) := fun k x hk hx => cubs_at hk hx
  obtain ⟨A, hA⟩ : ∃ A, A = cubsA (l.take p) := ⟨_, rfl⟩
  obtain ⟨F, hFF⟩ : ∃ F, F = aboutA (cubsA (l.take p)) r.cube H := ⟨_, rfl⟩
  rw [← hFF] at HAE ⊢
  rw [← hA] at HCL HK HKW HAL HAE HAT2
  obtain ⟨U0, hU⟩ : ∃ U0, U0 = can r.cube.1 r.cube.2 := ⟨_, rfl⟩
  have hUl : U0.length = 13 := by rw [hU]; exact (can_byt _ _).1
  have hMl : r.cube.2.length = 13 := hr.2.1
  have hVl : r.cube.1.length = 13 := hr.1.1
  rw [← hU] at HCA HK HKW HAE
  obtain ⟨o, cap, rfl, hc1, hc2⟩ := GSl.slice hl
  obtain ⟨n, hn0⟩ : ∃ n, n = l.length := ⟨_, rfl⟩
  have hpn : p < n := by rw [hn0]; exact hF.lt
  have hpn' : (p : Int) < (n : Int) := by omega
  rw [← hn0] at hl hc1 hn1 HLK HCL ⊢
  have HL : Hid (RulesAt w (.slice o n cap) l) := hl
  have HOK : Hid (∀ r ∈ l, okR8 r) := hl0
  obtain ⟨g, off, cur, ty, fr, r', rfl, hg, hc, hxp⟩ := hl.at p hpn
  rw [hF.at_] at hxp
  obtain rfl := Option.some.inj hxp
  have P1 : Hid (w.heap[g]? = some (.cells cur ty fr)) := hg
  have P2 : Hid (∀ j, j < 26 → cur[off + p * 28 + 1 + j]? = (cv r.cube.1 r.cube.2)[j]?) := cube_in hr hc
  have P3 : Hid (cur[off + p * 28 + 27]? = some (.int .i64 r.action)) := by
    show _ = _
    have h27 : cur[off + p * 28 + 27]? = (ruleV r)[27]? := hc 27 (by decide)
    rw [h27, (rule_at hr).2.2]
  have hgw : g < w.heap.size := (Array.getElem?_eq_some_iff.1 hg).1
  unfold maxLen at hc2
  have K0 : Hid (((w.alloc (.cells (hv H) 28)).alloc (.cells zeroC 30)).heap[w.heap.size]? = some (.cells (hv H) 28 (0, 0))) := heap_past _ _ _ _ (heap_new _ _ _ rfl)
  have K1 : Hid (((w.alloc (.cells (hv H) 28)).alloc (.cells zeroC 30)).heap[w.heap.size + 1]? = some (.cells zeroC 30 (0, 0))) := heap_new _ _ _ (by simp)
  have B0 : Hid (Below w.heap.size w ((w.alloc (.cells (hv H) 28)).alloc (.cells zeroC 30))) := ((Below.refl _ _).alloc (Nat.le_refl _) _).alloc (by simp) _
  have hp0 : ¬ (p : Int) < 0 := by omega
  have hp1 : decide ((p : Int) < 0) = false := by simp
  clear hl hl0 hF hH hr hRc hcH hFF hA hU hn0 hg hc hxp
  go_enter Try.func12, Try.ntmps12
  go_wp2_with (first
    | (refine wl_load26 rfl _ rfl w.heap.size rfl H K0.out hHl ?_))
  refine (HLK.out _ B0.out).mono ?_
  rintro e w1 ⟨rfl, hb1⟩
  have B1 : Hid (Below w.heap.size w w1) := B0.out.trans (hb1.mono B0.out.size)
  have R0 : Hid (w1.heap[w.heap.size]? = some (.cells (hv H) 28 (0, 0))) := (hb1.block _ (by simp; omega)).trans K0.out
  have R1 : Hid (w1.heap[w.heap.size + 1]? = some (.cells zeroC 30 (0, 0))) := (hb1.block _ (by simp)).trans K1.out
  have R2 : Hid (w1.heap[g]? = some (.cells cur ty fr)) := (B1.out.block _ hgw).trans P1.out
  clear hb1 K0 K1 B0 HLK
  go_wp2_with (first
    | (refine wl_loadCw rfl _ rfl g (off + p * 28 + 1) rfl cur ty fr r.cube.1 r.cube.2 hVl hMl R2.out P2.out ?_))
  refine (HCA.out _).mono ?_
  rintro e w2 ⟨rfl, hb2⟩
  have hbw : Below w.heap.size w w2 := B1.out.trans (hb2.mono B1.out.size)
  obtain ⟨gc, hgc⟩ : ∃ gc, gc = w2.heap.size := ⟨_, rfl⟩
  have B3 : Hid (Below w.heap.size w (w2.alloc (.cells (cv U0 r.cube.2) 30))) := hbw.alloc hbw.size _
  have S0 : Hid ((w2.alloc (.cells (cv U0 r.cube.2) 30)).heap[w.heap.size]? = some (.cells (hv H) 28 (0, 0))) := heap_past _ _ _ _ ((hb2.block _ (Array.getElem?_eq_some_iff.1 R0.out).1).trans R0.out)
  have S1 : Hid ((w2.alloc (.cells (cv U0 r.cube.2) 30)).heap[w.heap.size + 1]? = some (.cells zeroC 30 (0, 0))) := heap_past _ _ _ _ ((hb2.block _ (Array.getElem?_eq_some_iff.1 R1.out).1).trans R1.out)
  have S3 : Hid ((w2.alloc (.cells (cv U0 r.cube.2) 30)).heap[gc]? = some (.cells (cv U0 r.cube.2) 30 (0, 0))) := heap_new _ _ _ hgc
  have hgc1 : w.heap.size + 1 < gc := by
    rw [hgc]
    exact Nat.lt_of_lt_of_le (Array.getElem?_eq_some_iff.1 R1.out).1 hb2.size
  clear hb2 R0 R1 R2 B1 hbw HCA
  go_wp2_with (first
    | (refine wl_storeC rfl _ _ rfl w2.heap.size U0 r.cube.2 rfl rfl _ (heap_new _ _ _ rfl) rfl hUl hMl _ (setRow_new _ _ _ _ _ rfl) ?_))
  obtain ⟨w3, hw3⟩ : ∃ w3, w3 = w2.alloc (.cells (cv U0 r.cube.2) 30) := ⟨_, rfl⟩
  rw [← hw3] at B3 S0 S1 S3 ⊢
  rw [← hgc]
  clear hw3 hgc
  go_loopw [9] (fun i wr => ∃ k : Nat, k ≤ p ∧ i = .int .i64 (k : Int) ∧ Hid (wr.heap[w.heap.size]? = some (.cells (hv H) 28 (0, 0))) ∧ Hid (wr.heap[w.heap.size + 1]? = some (.cells zeroC 30 (0, 0))) ∧ Hid (wr.heap[gc]? = some (.cells (cv (narsA H (U0, r.cube.2) (A.take k)).1 (narsA H (U0, r.cube.2) (A.take k)).2) 30 (0, 0))) ∧ Hid (Below w.heap.size w wr)) (fun i _ => n - (intOf i).toNat)
  case atStart => exact ⟨0, Nat.zero_le _, rfl, S0, S1, S3, B3⟩
  case round =>
    clear S0 S1 S3 B3
    obtain ⟨k, hk, rfl, Z0, Z1, Z2, HB⟩ := hrel
    obtain ⟨hHas, hRk⟩ := HK.out k
    obtain ⟨U, N, hUN⟩ : ∃ U N, narsA H (U0, r.cube.2) (A.take k) = (U, N) := ⟨_, _, rfl⟩
    rw [hUN] at Z2 hHas hRk
    have hUl' := hRk.1.1
    have hNl' := hRk.2.1.1
    have HRK : Hid (rightA (U, N)) := hRk
    have HUN : Hid (narsA H (U0, r.cube.2) (A.take k) = (U, N)) := hUN
    clear hRk hUN hHas
    by_cases hlt : k < p
    · have hlt' : (k : Int) < (p : Int) := by omega
      have hkn' : (k : Int) < (n : Int) := by omega
      obtain ⟨g2, off2, cur2, ty2, fr2, x, e2, hg2, hc2', hxk⟩ := (GSl.below HL.out HB.out).at k (by omega)
      cases e2
      have hx : okR8 x := HOK.out x (List.mem_of_getElem? hxk)
      have HX : Hid (okR8 x) := hx
      have HXH : Hid (has x.cube.1 x.cube.2 H = false) := HBE.out k x hlt hxk
      have HAK : Hid (A[k]? = some x.cube) := HAT2.out k x hlt hxk
      have Q1 : Hid (wr.heap[g]? = some (.cells cur2 ty2 fr2)) := hg2
      have Q2 : Hid (∀ j, j < 26 → cur2[off + k * 28 + 1 + j]? = (cv x.cube.1 x.cube.2)[j]?) := cube_in hx hc2'
      have D1 : Hid (∀ W, Calls Try.prog 22 #[.agg (cv U N), .agg (cv x.cube.1 x.cube.2)] W fun e w' => e = .returned (.bool (meets U N x.cube.1 x.cube.2)) ∧ Below W.heap.size W w') := fun W' => rmeet15_any U N _ _ HRK.out.1 HRK.out.2.1 hx.1 hx.2 W'
      have D2 : Hid (∀ W, Calls Try.prog 29 #[.agg (cv x.cube.1 x.cube.2), .agg (hv H)] W fun e w' => e = .returned (.int .i64 (oddI H x.cube : Nat)) ∧ Below W.heap.size W w') := fun W' => rodd_any x.cube.1 x.cube.2 H hx.1 hx.2 HHH.out W'
      have hxl1 := hx.1.1
      have hxl2 := hx.2.1
      clear hg2 hc2' hxk hx
      go_wp2_with fail
      have ne1 := Later.ne wr
      refine wp_region_later (by kernel_rfl) (by kernel_rfl) ?_
      refine qlC rfl _ rfl gc rfl U N Z2.out hUl' hNl' ?_
      simp only [Act.put, List.setIfInBounds_toArray, List.set_cons_succ, List.set_cons_zero]
      go_big_quiet_step (fail)
      go_big_quiet_step (fail)
      go_big_quiet_step (fail)
      go_big_quiet_step (fail)
      refine qlCw rfl _ rfl g (off + k * 28 + 1) rfl cur2 ty2 fr2 x.cube.1 x.cube.2 hxl1 hxl2 (later_block Q1.out) Q2.out ?_
      simp only [Act.put, List.setIfInBounds_toArray, List.set_cons_succ, List.set_cons_zero]
      go_big_quiet_want; go_big_quiet_op
      refine ⟨_, fun u => Calls.later_of (D1.out u.world), ?_⟩
      go_big_quiet_on
      refine wpQuiet_nil ?_
      rintro w' ⟨v5, rfl⟩
      have hb1 := v5.below
      obtain ⟨w4, hw4⟩ : ∃ w4, w4 = v5.world := ⟨_, rfl⟩
      rw [← hw4] at hb1 ⊢
      have B4 : Hid (Below w.heap.size w w4) := HB.out.trans (hb1.mono HB.out.size)
      have T0 : Hid (w4.heap[w.heap.size]? = some (.cells (hv H) 28 (0, 0))) := (hb1.block _ (Array.getElem?_eq_some_iff.1 Z0.out).1).trans Z0.out
      have T1 : Hid (w4.heap[w.heap.size + 1]? = some (.cells zeroC 30 (0, 0))) := (hb1.block _ (Array.getElem?_eq_some_iff.1 Z1.out).1).trans Z1.out
      have T2 : Hid (w4.heap[gc]? = some (.cells (cv U N) 30 (0, 0))) := (hb1.block _ (Array.getElem?_eq_some_iff.1 Z2.out).1).trans Z2.out
      have T3 : Hid (w4.heap[g]? = some (.cells cur2 ty2 fr2)) := (hb1.block _ (Array.getElem?_eq_some_iff.1 Q1.out).1).trans Q1.out
      clear hb1 hw4 v5 ne1 Z0 Z1 Z2 Q1 HB D1
      cases hm : meets U N x.cube.1 x.cube.2 with
      | false =>
        have E1 : Hid (narsA H (U0, r.cube.2) (A.take (k + 1)) = (U, N)) := by
          show _ = _
          rw [nars_take HAK.out, HUN.out]; exact nar_no hm
        clear hm
        go_wp2_with fail
        go_roundw
        case rel => exact ⟨k + 1, by omega, by go_num, T0, T1, by rw [E1.out]; exact T2, B4⟩
        case measure => simp [intOf]; omega
      | true =>
        have E1 : Hid (narsA H (U0, r.cube.2) (A.take (k + 1)) = setA (U, N) (oddI H x.cube) (bt H (oddI H x.cube))) := by
          show _ = _
          rw [nars_take HAK.out, HUN.out]; exact nar_yes hm HXH.out
        have hb104 := (odd_some15 (H := H) (c := x.cube) HXH.out).2
        obtain ⟨b, hbe⟩ : ∃ b, b = oddI H x.cube := ⟨_, rfl⟩
        rw [← hbe] at E1 D2 hb104
        clear hbe hm
        go_wp2_with fail
        have ne1 := Later.ne w4
        refine wp_region_latertail 7 (by kernel_rfl) (by kernel_rfl) ?_
        simp only [List.take_succ_cons, List.take_zero, List.drop_succ_cons, List.drop_zero]
        go_big_quiet_step (fail)
        go_big_quiet_step (fail)
        go_big_quiet_step (fail)
        go_big_quiet_step (fail)
        refine qlCw rfl _ rfl g (off + k * 28 + 1) rfl cur2 ty2 fr2 x.cube.1 x.cube.2 hxl1 hxl2 (later_block T3.out) Q2.out ?_
        simp only [Act.put, List.setIfInBounds_toArray, List.set_cons_succ, List.set_cons_zero]
        refine qlH rfl _ rfl w.heap.size rfl H T0.out hHl ?_
        simp only [Act.put, List.setIfInBounds_toArray, List.set_cons_succ, List.set_cons_zero]
        go_big_quiet_want; go_big_quiet_op
        refine ⟨_, fun u => Calls.later_of (D2.out u.world), ?_⟩
        go_big_quiet_on
        refine wpQuiet_nil ?_
        rintro w' ⟨v5, rfl⟩
        have hb1 := v5.below
        obtain ⟨w5, hw5⟩ : ∃ w5, w5 = v5.world := ⟨_, rfl⟩
        rw [← hw5] at hb1 ⊢
        have B5 : Hid (Below w.heap.size w w5) := B4.out.trans (hb1.mono B4.out.size)
        have V0 : Hid (w5.heap[w.heap.size]? = some (.cells (hv H) 28 (0, 0))) := (hb1.block _ (Array.getElem?_eq_some_iff.1 T0.out).1).trans T0.out
        have V1 : Hid (w5.heap[w.heap.size + 1]? = some (.cells zeroC 30 (0, 0))) := (hb1.block _ (Array.getElem?_eq_some_iff.1 T1.out).1).trans T1.out
        have V2 : Hid (w5.heap[gc]? = some (.cells (cv U N) 30 (0, 0))) := (hb1.block _ (Array.getElem?_eq_some_iff.1 T2.out).1).trans T2.out
        clear hb1 hw5 v5 ne1 T0 T1 T2 T3 B4 D2
        have CB : Hid (∀ W, Calls Try.prog 30 #[.agg (hv H), .int .i64 (b : Int)] W fun e w' => e = .returned (.int .i64 (vI H b)) ∧ Below W.heap.size W w') := fun W' => value_any H HHH.out b hb104 W'
        have CF0 : ∀ W, Calls Try.prog 20 #[.agg (cv U N), .int .i64 (b : Int), .int .i64 (vI H b)] W fun e w' => e = .returned (.agg (cv (setb U b (vI H b == 1)) (setb N b (vI H b != 2)))) ∧ Below W.heap.size W w' := fun W' => rset_any U N HRK.out.1 HRK.out.2.1 b hb104 (vI H b) W'
        rw [vI_eq1, vI_ne2] at CF0
        have hR2 := rightA_set HRK.out b (bt H b)
        obtain ⟨V2', M2', hVM⟩ : ∃ V2' M2', setA (U, N) b (bt H b) = (V2', M2') := ⟨_, _, rfl⟩
        have hVM1 : setb U b (bt H b) = V2' := congrArg Prod.fst hVM
        have hVM2 : setb N b true = M2' := congrArg Prod.snd hVM
        rw [hVM] at hR2 E1
        rw [hVM1, hVM2] at CF0
        have hV2 := hR2.1.1
        have hM2 := hR2.2.1.1
        obtain ⟨z, hz⟩ : ∃ z, z = vI H b := ⟨_, rfl⟩
        rw [← hz] at CB CF0
        have CF : Hid (∀ W, Calls Try.prog 20 #[.agg (cv U N), .int .i64 (b : Int), .int .i64 z] W fun e w' => e = .returned (.agg (cv V2' M2')) ∧ Below W.heap.size W w') := CF0
        clear CF0 hR2 hVM hVM1 hVM2 hz
        go_wp2_with fail
        have ne1 := Later.ne w5
        refine wp_region_latertail 6 (by kernel_rfl) (by kernel_rfl) ?_
        simp only [List.take_succ_cons, List.take_zero, List.drop_succ_cons, List.drop_zero]
        refine qlC rfl _ rfl gc rfl U N V2.out hUl' hNl' ?_
        simp only [Act.put, List.setIfInBounds_toArray, List.set_cons_succ, List.set_cons_zero]
        go_big_quiet_step (fail)
        refine qlH rfl _ rfl w.heap.size rfl H V0.out hHl ?_
        simp only [Act.put, List.setIfInBounds_toArray, List.set_cons_succ, List.set_cons_zero]
        go_big_quiet_step (fail)
        go_big_quiet_want; go_big_quiet_op
        refine ⟨_, fun u => Calls.later_of (CB.out u.world), ?_⟩
        go_big_quiet_on
        go_big_quiet_want; go_big_quiet_op
        refine ⟨_, fun u => Calls.later_of (CF.out u.world), ?_⟩
        go_big_quiet_on
        refine wpQuiet_nil ?_
        rintro w' ⟨u, rfl⟩
        have k0 := later_block V0.out _ ⟨u, rfl⟩
        have k1 := later_block V1.out _ ⟨u, rfl⟩
        have k2 := later_block V2.out _ ⟨u, rfl⟩
        have hb2 := B5.out.trans (u.below.mono B5.out.size)
        clear V0 V1 V2 B5 ne1 CB CF
        go_wp2_with (first
          | (refine wl_storeC rfl _ _ rfl gc V2' M2' rfl rfl _ k2 (cv_size _ _ hUl' hNl') hV2 hM2 _ rfl ?_))
        go_roundw
        case rel => exact ⟨k + 1, by omega, by go_num, (setRow_other _ _ _ _ (by omega)).trans k0, (setRow_other _ _ _ _ (by omega)).trans k1, by rw [E1.out]; exact setRow_heap _ _ _ _ _ _ k2, below_setRow hb2 (by omega) _⟩
        case measure => simp [intOf]; omega
    · have hlt' : ¬ (k : Int) < (p : Int) := by omega
      obtain rfl : k = p := by omega
      have hAt : A.take k = A := List.take_of_length_le (by have := HAL.out; omega)
      have HUN2 : Hid (narsA H (U0, r.cube.2) A = (U, N)) := by
        show _ = _
        rw [← HUN.out, hAt]
      have HKW2 : Hid (∀ k, rightA (widsA A r.cube.2 k (U, N))) := fun j => by
        have := HKW.out j
        rwa [HUN2.out] at this
      have HAE2 : Hid (F = widsA A r.cube.2 104 (U, N)) := by
        show _ = _
        rw [HAE.out, HUN2.out]
      clear hAt HKW HAE HUN2
      go_wp2_with fail
      go_loopw [11] (fun i wi => ∃ j : Nat, j ≤ 104 ∧ i = .int .i64 (j : Int) ∧ Hid (wi.heap[w.heap.size + 1]? = some (.cells zeroC 30 (0, 0))) ∧ Hid (wi.heap[gc]? = some (.cells (cv (widsA A r.cube.2 j (U, N)).1 (widsA A r.cube.2 j (U, N)).2) 30 (0, 0))) ∧ Hid (Below w.heap.size w wi)) (fun i _ => 104 - (intOf i).toNat)
      case atStart => exact ⟨0, Nat.zero_le _, rfl, Z1, Z2, HB⟩
      case round =>
        clear Z0 Z1 Z2 HB
        obtain ⟨j, hj, rfl, Z1, Z2, HB⟩ := hrel
        have hRj := HKW2.out j
        obtain ⟨P, Q, hPQ⟩ : ∃ P Q, widsA A r.cube.2 j (U, N) = (P, Q) := ⟨_, _, rfl⟩
        rw [hPQ] at Z2 hRj
        have hPl := hRj.1.1
        have hQl := hRj.2.1.1
        have HRJ : Hid (rightA (P, Q)) := hRj
        have HPQ : Hid (widsA A r.cube.2 j (U, N) = (P, Q)) := hPQ
        have Q3 : Hid (wr.heap[g]? = some (.cells cur ty fr)) := (HB.out.block _ hgw).trans P1.out
        clear hRj hPQ
        by_cases hjlt : j < 104
        · have hjlt' : (j : Int) < 104 := by omega
          have E0 : Hid (widsA A r.cube.2 (j + 1) (U, N) = widA A r.cube.2 (P, Q) j) := by
            show _ = _
            rw [wids_succ, HPQ.out]
          rcases at_three r.cube.1 r.cube.2 j with ⟨hbx, hex | hex⟩ | ⟨hbx, hex⟩
          · have D1 : Hid (∀ W, Calls Try.prog 19 #[.agg (cv r.cube.1 r.cube.2), .int .i64 (j : Int)] W fun e w' => e = .returned (.int .i64 0) ∧ Below W.heap.size W w') := fun W' => by
              have := HAT.out j hjlt W'
              rwa [hex] at this
            clear hex
            go_wp2_with (first
              | (refine wl_loadCw rfl _ rfl g (off + k * 28 + 1) rfl cur ty fr r.cube.1 r.cube.2 hVl hMl Q3.out P2.out ?_))
            refine (D1.out _).mono ?_
            rintro e w5 ⟨rfl, hb5⟩
            have B5 : Hid (Below w.heap.size w w5) := HB.out.trans (hb5.mono HB.out.size)
            have M1 : Hid (w5.heap[w.heap.size + 1]? = some (.cells zeroC 30 (0, 0))) := (hb5.block _ (Array.getElem?_eq_some_iff.1 Z1.out).1).trans Z1.out
            have M2 : Hid (w5.heap[gc]? = some (.cells (cv P Q) 30 (0, 0))) := (hb5.block _ (Array.getElem?_eq_some_iff.1 Z2.out).1).trans Z2.out
            clear hb5 Z1 Z2 Q3 HB D1
            have E1 : Hid (widsA A r.cube.2 (j + 1) (U, N) = (P, Q)) := by
              show _ = _
              rw [E0.out]; exact wid_no2 hbx
            clear hbx
            go_wp2_with fail
            go_roundw
            case rel => exact ⟨j + 1, by omega, by go_num, M1, by rw [E1.out]; exact M2, B5⟩
            case measure => simp [intOf]; omega
          · have D1 : Hid (∀ W, Calls Try.prog 19 #[.agg (cv r.cube.1 r.cube.2), .int .i64 (j : Int)] W fun e w' => e = .returned (.int .i64 1) ∧ Below W.heap.size W w') := fun W' => by
              have := HAT.out j hjlt W'
              rwa [hex] at this
            clear hex
            go_wp2_with (first
              | (refine wl_loadCw rfl _ rfl g (off + k * 28 + 1) rfl cur ty fr r.cube.1 r.cube.2 hVl hMl Q3.out P2.out ?_))
            refine (D1.out _).mono ?_
            rintro e w5 ⟨rfl, hb5⟩
            have B5 : Hid (Below w.heap.size w w5) := HB.out.trans (hb5.mono HB.out.size)
            have M1 : Hid (w5.heap[w.heap.size + 1]? = some (.cells zeroC 30 (0, 0))) := (hb5.block _ (Array.getElem?_eq_some_iff.1 Z1.out).1).trans Z1.out
            have M2 : Hid (w5.heap[gc]? = some (.cells (cv P Q) 30 (0, 0))) := (hb5.block _ (Array.getElem?_eq_some_iff.1 Z2.out).1).trans Z2.out
            clear hb5 Z1 Z2 Q3 HB D1
            have E1 : Hid (widsA A r.cube.2 (j + 1) (U, N) = (P, Q)) := by
              show _ = _
              rw [E0.out]; exact wid_no2 hbx
            clear hbx
            go_wp2_with fail
            go_roundw
            case rel => exact ⟨j + 1, by omega, by go_num, M1, by rw [E1.out]; exact M2, B5⟩
            case measure => simp [intOf]; omega
          · have D1 : Hid (∀ W, Calls Try.prog 19 #[.agg (cv r.cube.1 r.cube.2), .int .i64 (j : Int)] W fun e w' => e = .returned (.int .i64 2) ∧ Below W.heap.size W w') := fun W' => by
              have := HAT.out j hjlt W'
              rwa [hex] at this
            clear hex
            go_wp2_with (first
              | (refine wl_loadCw rfl _ rfl g (off + k * 28 + 1) rfl cur ty fr r.cube.1 r.cube.2 hVl hMl Q3.out P2.out ?_))
            refine (D1.out _).mono ?_
            rintro e w5 ⟨rfl, hb5⟩
            have B5 : Hid (Below w.heap.size w w5) := HB.out.trans (hb5.mono HB.out.size)
            have M1 : Hid (w5.heap[w.heap.size + 1]? = some (.cells zeroC 30 (0, 0))) := (hb5.block _ (Array.getElem?_eq_some_iff.1 Z1.out).1).trans Z1.out
            have M2 : Hid (w5.heap[gc]? = some (.cells (cv P Q) 30 (0, 0))) := (hb5.block _ (Array.getElem?_eq_some_iff.1 Z2.out).1).trans Z2.out
            clear hb5 Z1 Z2 Q3 HB D1
            have HBX : Hid (bt r.cube.2 j = false) := hbx
            clear hbx
            rcases at_three P Q j with ⟨hby, hey | hey⟩ | ⟨hby, hey⟩
            · have D2 : Hid (∀ W, Calls Try.prog 19 #[.agg (cv P Q), .int .i64 (j : Int)] W fun e w' => e = .returned (.int .i64 0) ∧ Below W.heap.size W w') := fun W' => by
                have := at_any P Q HRJ.out.1 HRJ.out.2.1 j hjlt W'
                rwa [hey] at this
              clear hey
              go_wp2_with (first
                | (refine wl_loadCw rfl _ rfl gc 0 rfl _ _ _ P Q hPl hQl M2.out (own_cells _ _) ?_))
              refine (D2.out _).mono ?_
              rintro e w6 ⟨rfl, hb6⟩
              have B6 : Hid (Below w.heap.size w w6) := B5.out.trans (hb6.mono B5.out.size)
              have L1 : Hid (w6.heap[w.heap.size + 1]? = some (.cells zeroC 30 (0, 0))) := (hb6.block _ (Array.getElem?_eq_some_iff.1 M1.out).1).trans M1.out
              have L2 : Hid (w6.heap[gc]? = some (.cells (cv P Q) 30 (0, 0))) := (hb6.block _ (Array.getElem?_eq_some_iff.1 M2.out).1).trans M2.out
              clear hb6 M1 M2 B5 D2
              have HBY : Hid (bt Q j = true) := hby
              have CF0 : ∀ W, Calls Try.prog 20 #[.agg (cv P Q), .int .i64 (j : Int), .int .i64 2] W fun e w' => e = .returned (.agg (cv (setb P j ((2 : Int) == 1)) (setb Q j ((2 : Int) != 2)))) ∧ Below W.heap.size W w' := fun W' => rset_any P Q HRJ.out.1 HRJ.out.2.1 j hjlt 2 W'
              have hR2 := rightA_free HRJ.out j
              obtain ⟨V2, M2, hVM⟩ : ∃ V2 M2, freeA (P, Q) j = (V2, M2) := ⟨_, _, rfl⟩
              have hVM1 : setb P j ((2 : Int) == 1) = V2 := congrArg Prod.fst hVM
              have hVM2 : setb Q j ((2 : Int) != 2) = M2 := congrArg Prod.snd hVM
              rw [hVM] at hR2
              rw [hVM1, hVM2] at CF0
              have hV2 := hR2.1.1
              have hM2 := hR2.2.1.1
              have HVM : Hid (freeA (P, Q) j = (V2, M2)) := hVM
              have CF : Hid (∀ W, Calls Try.prog 20 #[.agg (cv P Q), .int .i64 (j : Int), .int .i64 2] W fun e w' => e = .returned (.agg (cv V2 M2)) ∧ Below W.heap.size W w') := CF0
              have CL : Hid (∀ W, Below w.heap.size w W → Calls Try.prog 17 #[.slice (some ⟨g, off, none⟩) n cap, .int .i64 (k : Int), .agg (cv V2 M2)] W fun e w' => e = .returned (.bool (clearA A (V2, M2))) ∧ Below W.heap.size W w') := fun W' hb => HCL.out V2 M2 W' hR2.1 hR2.2.1 hb
              clear CF0 hR2 hVM hVM1 hVM2 hby
              go_wp2_with (first
                | (refine wl_loadC rfl _ rfl gc rfl P Q L2.out hPl hQl ?_))
              refine (CF.out _).mono ?_
              rintro e w7 ⟨rfl, hb7⟩
              have hbw : Below w.heap.size w w7 := B6.out.trans (hb7.mono B6.out.size)
              have B7 : Hid (Below w.heap.size w (w7.alloc (.cells (cv V2 M2) 30))) := hbw.alloc hbw.size _
              have X1 : Hid ((w7.alloc (.cells (cv V2 M2) 30)).heap[w.heap.size + 1]? = some (.cells zeroC 30 (0, 0))) := heap_past _ _ _ _ ((hb7.block _ (Array.getElem?_eq_some_iff.1 L1.out).1).trans L1.out)
              have X2 : Hid ((w7.alloc (.cells (cv V2 M2) 30)).heap[gc]? = some (.cells (cv P Q) 30 (0, 0))) := heap_past _ _ _ _ ((hb7.block _ (Array.getElem?_eq_some_iff.1 L2.out).1).trans L2.out)
              have X3 : Hid ((w7.alloc (.cells (cv V2 M2) 30)).heap[w7.heap.size]? = some (.cells (cv V2 M2) 30 (0, 0))) := heap_new _ _ _ rfl
              clear hb7 hbw L1 L2 B6 CF
              go_wp2_with (first
                | (refine wl_storeC rfl _ _ rfl w7.heap.size V2 M2 rfl rfl _ (heap_new _ _ _ rfl) rfl hV2 hM2 _ (setRow_new _ _ _ _ _ rfl) ?_)
                | (refine wl_loadC rfl _ rfl w7.heap.size rfl V2 M2 X3.out hV2 hM2 ?_))
              refine (CL.out _ B7.out).mono ?_
              rintro e w8 ⟨rfl, hb8⟩
              have B8 : Hid (Below w.heap.size w w8) := B7.out.trans (hb8.mono B7.out.size)
              have Y1 : Hid (w8.heap[w.heap.size + 1]? = some (.cells zeroC 30 (0, 0))) := (hb8.block _ (Array.getElem?_eq_some_iff.1 X1.out).1).trans X1.out
              have Y2 : Hid (w8.heap[gc]? = some (.cells (cv P Q) 30 (0, 0))) := (hb8.block _ (Array.getElem?_eq_some_iff.1 X2.out).1).trans X2.out
              have Y3 : Hid (w8.heap[w7.heap.size]? = some (.cells (cv V2 M2) 30 (0, 0))) := (hb8.block _ (Array.getElem?_eq_some_iff.1 X3.out).1).trans X3.out
              clear hb8 X1 X2 X3 B7 CL
              cases hcl : clearA A (V2, M2) with
              | false =>
                have E1 : Hid (widsA A r.cube.2 (j + 1) (U, N) = (P, Q)) := by
                  show _ = _
                  rw [E0.out]
                  refine wid_no3 ?_
                  rw [HVM.out]; exact hcl
                clear hcl
                go_wp2_with fail
                go_roundw
                case rel => exact ⟨j + 1, by omega, by go_num, Y1, by rw [E1.out]; exact Y2, B8⟩
                case measure => simp [intOf]; omega
              | true =>
                have E1 : Hid (widsA A r.cube.2 (j + 1) (U, N) = (V2, M2)) := by
                  show _ = _
                  rw [E0.out, ← HVM.out]
                  refine wid_yes HBY.out HBX.out ?_
                  rw [HVM.out]; exact hcl
                clear hcl
                go_wp2_with (first
                  | (refine wl_loadC rfl _ rfl w7.heap.size rfl V2 M2 Y3.out hV2 hM2 ?_)
                  | (refine wl_storeC rfl _ _ rfl gc V2 M2 rfl rfl _ Y2.out (cv_size _ _ hPl hQl) hV2 hM2 _ rfl ?_))
                go_roundw
                case rel => exact ⟨j + 1, by omega, by go_num, (setRow_other _ _ _ _ (by omega)).trans Y1.out, by rw [E1.out]; exact setRow_heap _ _ _ _ _ _ Y2.out, below_setRow B8.out (by omega) _⟩
                case measure => simp [intOf]; omega
            · have D2 : Hid (∀ W, Calls Try.prog 19 #[.agg (cv P Q), .int .i64 (j : Int)] W fun e w' => e = .returned (.int .i64 1) ∧ Below W.heap.size W w') := fun W' => by
                have := at_any P Q HRJ.out.1 HRJ.out.2.1 j hjlt W'
                rwa [hey] at this
              clear hey
              go_wp2_with (first
                | (refine wl_loadCw rfl _ rfl gc 0 rfl _ _ _ P Q hPl hQl M2.out (own_cells _ _) ?_))
              refine (D2.out _).mono ?_
              rintro e w6 ⟨rfl, hb6⟩
              have B6 : Hid (Below w.heap.size w w6) := B5.out.trans (hb6.mono B5.out.size)
              have L1 : Hid (w6.heap[w.heap.size + 1]? = some (.cells zeroC 30 (0, 0))) := (hb6.block _ (Array.getElem?_eq_some_iff.1 M1.out).1).trans M1.out
              have L2 : Hid (w6.heap[gc]? = some (.cells (cv P Q) 30 (0, 0))) := (hb6.block _ (Array.getElem?_eq_some_iff.1 M2.out).1).trans M2.out
              clear hb6 M1 M2 B5 D2
              have HBY : Hid (bt Q j = true) := hby
              have CF0 : ∀ W, Calls Try.prog 20 #[.agg (cv P Q), .int .i64 (j : Int), .int .i64 2] W fun e w' => e = .returned (.agg (cv (setb P j ((2 : Int) == 1)) (setb Q j ((2 : Int) != 2)))) ∧ Below W.heap.size W w' := fun W' => rset_any P Q HRJ.out.1 HRJ.out.2.1 j hjlt 2 W'
              have hR2 := rightA_free HRJ.out j
              obtain ⟨V2, M2, hVM⟩ : ∃ V2 M2, freeA (P, Q) j = (V2, M2) := ⟨_, _, rfl⟩
              have hVM1 : setb P j ((2 : Int) == 1) = V2 := congrArg Prod.fst hVM
              have hVM2 : setb Q j ((2 : Int) != 2) = M2 := congrArg Prod.snd hVM
              rw [hVM] at hR2
              rw [hVM1, hVM2] at CF0
              have hV2 := hR2.1.1
              have hM2 := hR2.2.1.1
              have HVM : Hid (freeA (P, Q) j = (V2, M2)) := hVM
              have CF : Hid (∀ W, Calls Try.prog 20 #[.agg (cv P Q), .int .i64 (j : Int), .int .i64 2] W fun e w' => e = .returned (.agg (cv V2 M2)) ∧ Below W.heap.size W w') := CF0
              have CL : Hid (∀ W, Below w.heap.size w W → Calls Try.prog 17 #[.slice (some ⟨g, off, none⟩) n cap, .int .i64 (k : Int), .agg (cv V2 M2)] W fun e w' => e = .returned (.bool (clearA A (V2, M2))) ∧ Below W.heap.size W w') := fun W' hb => HCL.out V2 M2 W' hR2.1 hR2.2.1 hb
              clear CF0 hR2 hVM hVM1 hVM2 hby
              go_wp2_with (first
                | (refine wl_loadC rfl _ rfl gc rfl P Q L2.out hPl hQl ?_))
              refine (CF.out _).mono ?_
              rintro e w7 ⟨rfl, hb7⟩
              have hbw : Below w.heap.size w w7 := B6.out.trans (hb7.mono B6.out.size)
              have B7 : Hid (Below w.heap.size w (w7.alloc (.cells (cv V2 M2) 30))) := hbw.alloc hbw.size _
              have X1 : Hid ((w7.alloc (.cells (cv V2 M2) 30)).heap[w.heap.size + 1]? = some (.cells zeroC 30 (0, 0))) := heap_past _ _ _ _ ((hb7.block _ (Array.getElem?_eq_some_iff.1 L1.out).1).trans L1.out)
              have X2 : Hid ((w7.alloc (.cells (cv V2 M2) 30)).heap[gc]? = some (.cells (cv P Q) 30 (0, 0))) := heap_past _ _ _ _ ((hb7.block _ (Array.getElem?_eq_some_iff.1 L2.out).1).trans L2.out)
              have X3 : Hid ((w7.alloc (.cells (cv V2 M2) 30)).heap[w7.heap.size]? = some (.cells (cv V2 M2) 30 (0, 0))) := heap_new _ _ _ rfl
              clear hb7 hbw L1 L2 B6 CF
              go_wp2_with (first
                | (refine wl_storeC rfl _ _ rfl w7.heap.size V2 M2 rfl rfl _ (heap_new _ _ _ rfl) rfl hV2 hM2 _ (setRow_new _ _ _ _ _ rfl) ?_)
                | (refine wl_loadC rfl _ rfl w7.heap.size rfl V2 M2 X3.out hV2 hM2 ?_))
              refine (CL.out _ B7.out).mono ?_
              rintro e w8 ⟨rfl, hb8⟩
              have B8 : Hid (Below w.heap.size w w8) := B7.out.trans (hb8.mono B7.out.size)
              have Y1 : Hid (w8.heap[w.heap.size + 1]? = some (.cells zeroC 30 (0, 0))) := (hb8.block _ (Array.getElem?_eq_some_iff.1 X1.out).1).trans X1.out
              have Y2 : Hid (w8.heap[gc]? = some (.cells (cv P Q) 30 (0, 0))) := (hb8.block _ (Array.getElem?_eq_some_iff.1 X2.out).1).trans X2.out
              have Y3 : Hid (w8.heap[w7.heap.size]? = some (.cells (cv V2 M2) 30 (0, 0))) := (hb8.block _ (Array.getElem?_eq_some_iff.1 X3.out).1).trans X3.out
              clear hb8 X1 X2 X3 B7 CL
              cases hcl : clearA A (V2, M2) with
              | false =>
                have E1 : Hid (widsA A r.cube.2 (j + 1) (U, N) = (P, Q)) := by
                  show _ = _
                  rw [E0.out]
                  refine wid_no3 ?_
                  rw [HVM.out]; exact hcl
                clear hcl
                go_wp2_with fail
                go_roundw
                case rel => exact ⟨j + 1, by omega, by go_num, Y1, by rw [E1.out]; exact Y2, B8⟩
                case measure => simp [intOf]; omega
              | true =>
                have E1 : Hid (widsA A r.cube.2 (j + 1) (U, N) = (V2, M2)) := by
                  show _ = _
                  rw [E0.out, ← HVM.out]
                  refine wid_yes HBY.out HBX.out ?_
                  rw [HVM.out]; exact hcl
                clear hcl
                go_wp2_with (first
                  | (refine wl_loadC rfl _ rfl w7.heap.size rfl V2 M2 Y3.out hV2 hM2 ?_)
                  | (refine wl_storeC rfl _ _ rfl gc V2 M2 rfl rfl _ Y2.out (cv_size _ _ hPl hQl) hV2 hM2 _ rfl ?_))
                go_roundw
                case rel => exact ⟨j + 1, by omega, by go_num, (setRow_other _ _ _ _ (by omega)).trans Y1.out, by rw [E1.out]; exact setRow_heap _ _ _ _ _ _ Y2.out, below_setRow B8.out (by omega) _⟩
                case measure => simp [intOf]; omega
            · have D2 : Hid (∀ W, Calls Try.prog 19 #[.agg (cv P Q), .int .i64 (j : Int)] W fun e w' => e = .returned (.int .i64 2) ∧ Below W.heap.size W w') := fun W' => by
                have := at_any P Q HRJ.out.1 HRJ.out.2.1 j hjlt W'
                rwa [hey] at this
              clear hey
              go_wp2_with (first
                | (refine wl_loadCw rfl _ rfl gc 0 rfl _ _ _ P Q hPl hQl M2.out (own_cells _ _) ?_))
              refine (D2.out _).mono ?_
              rintro e w6 ⟨rfl, hb6⟩
              have B6 : Hid (Below w.heap.size w w6) := B5.out.trans (hb6.mono B5.out.size)
              have L1 : Hid (w6.heap[w.heap.size + 1]? = some (.cells zeroC 30 (0, 0))) := (hb6.block _ (Array.getElem?_eq_some_iff.1 M1.out).1).trans M1.out
              have L2 : Hid (w6.heap[gc]? = some (.cells (cv P Q) 30 (0, 0))) := (hb6.block _ (Array.getElem?_eq_some_iff.1 M2.out).1).trans M2.out
              clear hb6 M1 M2 B5 D2
              have E1 : Hid (widsA A r.cube.2 (j + 1) (U, N) = (P, Q)) := by
                show _ = _
                rw [E0.out]; exact wid_no1 hby
              clear hby
              go_wp2_with fail
              go_roundw
              case rel => exact ⟨j + 1, by omega, by go_num, L1, by rw [E1.out]; exact L2, B6⟩
              case measure => simp [intOf]; omega
        · have hjlt' : ¬ (j : Int) < 104 := by omega
          obtain rfl : j = 104 := by omega
          have HFE : Hid (F = (P, Q)) := by
            show _ = _
            rw [HAE2.out, HPQ.out]
          go_wp2_with fail
          obtain ⟨g1, hg1⟩ : ∃ g1, g1 = w.heap.size + 1 := ⟨_, rfl⟩
          have hne : g1 ≠ gc ∧ g1 ≠ g := by omega
          have hg1w : w.heap.size ≤ g1 := by omega
          rw [← hg1] at Z1
          rw [← hg1]
          clear hg1
          refine region_cut (fun a a' w' => ∃ y76 y77 y78 y79 y80 y81, a' = ((((((((a.put (some 76) y76).put (some 77) y77).put (some 78) y78).put (some 79) y79).put (some 80) y80).put (some 81) y81).put (some 5) (.int .i64 r.action)).put (some 6) (.bool true)) ∧ w'.heap[g1]? = some (.cells (cv P Q) 30 (0, 0)) ∧ Below w.heap.size w w') ?_ ?_
          · have ne9 : Nonempty (KeepR gc g P Q cur ty fr) := ⟨⟨wr, Z2.out, Q3.out⟩⟩
            have e27 : ∀ z : KeepR gc g P Q cur ty fr, z.world.cell? ⟨g, off + k * 28 + 27, none⟩ = some (.int .i64 r.action) := fun z => (cell_of_row _ _ _ _ _ _ z.k2).trans P3.out
            have hS0 : InR15 gc g P Q cur ty fr (World.drew wr) := InR15.of Z2.out Q3.out
            refine region_beginS (InR15 gc g P Q cur ty fr) 9 rfl (by kernel_rfl) ?_
            refine region_reads 0 6 3 rfl (by kernel_rfl) (by kernel_rfl) (by kernel_rfl) (by intro d v c a w h; exact absurd h.1 (by simp)) hS0 ?_
            simp only [List.drop_zero, List.take_succ_cons, List.take_zero]
            refine qlCw rfl _ rfl gc 0 rfl _ _ _ P Q hPl hQl (fun w' h => by obtain ⟨z, rfl⟩ := h; exact z.k1) (own_cells _ _) ?_
            simp only [Act.put, List.setIfInBounds_toArray, List.set_cons_succ, List.set_cons_zero]
            go_big_quiet_step (fail)
            go_big_quiet_step (fail)
            go_big_quiet_step (fail)
            go_big_quiet_step (fail)
            go_big_quiet_step (fail)
            refine wpQuiet_nil ?_
            refine wpAnyH_all (rs := [6]) (by kernel_rfl) (by decide) ?_
            intro i hi
            obtain rfl := List.mem_singleton.1 hi
            have b1 : (World.drew wr).heap[g1]? = some (.cells zeroC 30 (0, 0)) := Z1.out
            have b2 : (World.drew wr).heap[gc]? = some (.cells (cv P Q) 30 (0, 0)) := Z2.out
            have b3 : (World.drew wr).heap[g]? = some (.cells cur ty fr) := Q3.out
            refine wpOp_storeC rfl rfl _ _ rfl g1 P Q rfl rfl _ b1 rfl hPl hQl none rfl ?_
            have c1 : ((World.drew wr).setRow g1 (cv P Q)).heap[g1]? = some (.cells (cv P Q) 30 (0, 0)) := setRow_heap _ _ _ _ _ _ b1
            have c2 := (setRow_other (World.drew wr) g1 gc (cv P Q) (Ne.symm hne.1)).trans b2
            have c3 := (setRow_other (World.drew wr) g1 g (cv P Q) (Ne.symm hne.2)).trans b3
            refine ⟨InR15.of c2 c3, ?_⟩
            refine wpAnyH_all (rs := [7]) (by kernel_rfl) (by decide) ?_
            intro i hi
            obtain rfl := List.mem_singleton.1 hi
            refine wpOp_assign rfl rfl _ rfl _ rfl (some 5) rfl ?_
            refine ⟨InR15.of c2 c3, ?_⟩
            refine wpAnyH_all (rs := [8]) (by kernel_rfl) (by decide) ?_
            intro i hi
            obtain rfl := List.mem_singleton.1 hi
            refine wpOp_assign rfl rfl _ rfl _ rfl (some 6) rfl ?_
            refine ⟨InR15.of c2 c3, ?_⟩
            refine wpAnyH_done (by kernel_rfl) ?_ _
            exact ⟨rfl, _, _, _, _, _, _, rfl, c1, below_setRow HB.out.drew hg1w _⟩
          · rintro a' w' ⟨y76, y77, y78, y79, y80, y81, rfl, hq, hbq⟩
            simp only [Act.put, List.setIfInBounds_toArray, List.set_cons_succ, List.set_cons_zero]
            go_wp2_with fail
            rw [HFE.out]
            exact retC15 (p := 4) (u := 5) (t := 6) rfl rfl g1 rfl P Q hPl hQl hq _ _ rfl rfl ⟨rfl, hbq⟩
end Go.Proofs.Ytdibjhlckjjlfaa
