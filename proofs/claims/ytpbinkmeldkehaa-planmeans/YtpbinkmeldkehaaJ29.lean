import Derived.Test.YtpbinkmeldkehaaJ28
import Derived.Deep.CutRange
namespace Go.Proofs.Ytpbinkmeldkehaa
open Go Go.Lib Go.RowKit Ieee
set_option maxRecDepth 20000

set_option maxHeartbeats 32000000 in
set_option maxRecDepth 100000 in
theorem rtree_any (l : List RuleM) (hl0 : ∀ r ∈ l, okR8 r) (hn1 : l.length ≤ 100000) (vl : Value) (L G : Int) (hL : L ≤ 1000) (b : Nat) (hwb : Wd b) (w : World) (hl : RulesAt w vl l) :
    Calls Try.prog 40 #[vl, .int .i64 L, .int .i64 G, .float .f64 b] w fun e w' => (∃ v, e = .returned v ∧ LeavesOwn w.heap.size w' v (treeT b L G l)) ∧ Below w.heap.size w w' := by
  have BE : Hid (∀ (x : LeafM) u W, okL x → x.rules.length ≤ 100000 → RulesAt W u x.rules → Calls Try.prog 49 #[u, .agg (cv x.cube.1 x.cube.2), .float .f64 b] W fun e w' => e = .returned (.tuple #[.int .i64 (bI (bestO x.cube.1 x.cube.2 x.rules b 104) : Nat), .bool (bestO x.cube.1 x.cube.2 x.rules b 104).isSome]) ∧ Below W.heap.size W w') := fun x u W h1 h2 h3 => rbst_any x.rules h1.2.2 h2 u x.cube.1 x.cube.2 h1.1 h1.2.1 b hwb W h3
  have hcl : (clipT Z Z l).length ≤ 100000 := Nat.le_trans (clip_len _ _ _) hn1
  obtain ⟨RES, hRES⟩ : ∃ RES, RES = treeT b L G l := ⟨_, rfl⟩
  have HRES : Hid (RES = refR b L G [⟨(Z, Z), 0, 0, clipT Z Z l⟩]) := by show _ = _; rw [hRES]; exact treeT_ref b L G l
  rw [← hRES]
  have hZl := Z_byt.1
  obtain ⟨w1, hw1⟩ : ∃ w1, w1 = w.alloc (.cells (cv Z Z) 42) := ⟨_, rfl⟩
  have P1 : Hid (w1.heap[w.heap.size]? = some (.cells (cv Z Z) 42 (0, 0))) := by show _ = _; rw [hw1]; exact heap_new _ _ _ rfl
  have B1 : Hid (Below w.heap.size w w1) := by show Below _ _ _; rw [hw1]; exact (Below.refl _ _).alloc (Nat.le_refl _) _
  have W1 : Hid (w1 = _) := hw1
  have HL1 : Hid (RulesAt w1 vl l) := GSl.below hl B1.out
  have HL0 : Hid (∀ r ∈ l, okR8 r) := hl0
  clear hRES hw1 hl hwb hl0
  go_enter Try.func40, Try.ntmps40
  go_wp2_with (first | (refine wl_zero12 rfl rfl ?_) | (refine wl_storeC rfl _ _ rfl w.heap.size Z Z rfl rfl _ (heap_new _ _ _ rfl) rfl hZl hZl _ (setRow_new _ _ _ _ _ rfl) ?_))
  rw [← W1.out]
  refine t2_region (by first | simp | exact Nat.le_of_ble_eq_true rfl) w.heap.size w.heap.size Z Z Z_byt Z_byt l HL0.out hn1 vl HL1.out B1.out.size rfl rfl P1.out ?_
  intro y w2 v10 hb2 ho2
  have B2 : Hid (Below w.heap.size w w2) := below_stepR B1.out B1.out.size hb2
  have P2 : Hid (w2.heap[w.heap.size]? = some (.cells (cv Z Z) 42 (0, 0))) := (hb2.block _ (Array.getElem?_eq_some_iff.1 P1.out).1).trans P1.out
  have O2 : Hid (LeavesOwn w.heap.size w2 v10 [⟨(Z, Z), 0, 0, clipT Z Z l⟩]) := ho2
  obtain ⟨x0, hx0⟩ : ∃ x0 : LeafM, x0 = ⟨(Z, Z), 0, 0, clipT Z Z l⟩ := ⟨_, rfl⟩
  have hxr : (clipT Z Z l).length = x0.rules.length := by rw [hx0]
  have HXC : Hid (x0.cube = (Z, Z)) := by show _ = _; rw [hx0]
  rw [← hx0] at O2 HRES
  rw [hxr] at hcl
  clear ho2 hb2 hxr hx0 P1 B1 HL1 HL0 W1 hn1
  simp only [putsD, t2_D, List.foldl_cons, List.foldl_nil, Act.put, List.setIfInBounds_toArray, List.set_cons_succ, List.set_cons_zero]
  obtain ⟨w3, hw3⟩ : ∃ w3, w3 = w2.alloc (.cells #[.int .i64 (-1)] 3) := ⟨_, rfl⟩
  have b23 : Below w2.heap.size w2 w3 := by rw [hw3]; exact (Below.refl _ _).alloc (Nat.le_refl _) _
  have B3 : Hid (Below w.heap.size w w3) := below_stepR B2.out B2.out.size b23
  have P3 : Hid (w3.heap[w.heap.size]? = some (.cells (cv Z Z) 42 (0, 0))) := (b23.block _ (Array.getElem?_eq_some_iff.1 P2.out).1).trans P2.out
  have O3 : Hid (LeavesOwn w.heap.size w3 v10 [x0]) := NOwn.below LfR.below O2.out b23
  have V3 : Hid (VOwn 3 w.heap.size w3 (.slice (some ⟨w2.heap.size, 0, none⟩) 1 1) [.int .i64 (-1)]) := by show VOwn _ _ _ _ _; rw [hw3]; exact vown1 w2 w.heap.size B2.out.size _ _
  obtain ⟨q2, hq2⟩ : ∃ q2, q2 = w2.heap.size := ⟨_, rfl⟩
  rw [← hq2] at V3
  obtain ⟨oo, co, rfl, hc1, hc2⟩ := leaves_own_slice O3.out
  obtain ⟨g, off, cur, ty, fr, x, u, rfl, hg, hc, hxk, hxu⟩ := (leaves_sl O3.out).at 0 (by simp)
  obtain rfl : x0 = x := by simpa using hxk
  obtain ⟨o4, m4, hu4⟩ := hxu.slice
  have hc28 : cur[off + 28]? = some u := by
    have h3 := hc 28 (by show 28 < 29; omega)
    rw [(leaf_at hxu.1 u).2.2.2] at h3
    simpa using h3
  have K3 : Hid (w3.heap[g]? = some (.cells cur ty fr)) := hg
  have BX : Hid (∀ W, Below w3.heap.size w3 W → Calls Try.prog 49 #[u, .agg (cv Z Z), .float .f64 b] W fun e w' => e = .returned (.tuple #[.int .i64 (bI (bestO x0.cube.1 x0.cube.2 x0.rules b 104) : Nat), .bool (bestO x0.cube.1 x0.cube.2 x0.rules b 104).isSome]) ∧ Below W.heap.size W w') := fun W hb => by
    have h := BE.out x0 u W hxu.1 hcl (GSl.below hxu.rules hb)
    rw [HXC.out] at h ⊢
    exact h
  have d28 : w3.cell? ⟨g, off + 28, none⟩ = some u := (cell_of_row _ _ _ _ _ _ K3.out).trans hc28
  have e28 : ∀ v : Later w3, v.world.cell? ⟨g, off + 28, none⟩ = some u := later_cell12 K3.out hc28
  have X0OK : Hid (okL x0) := hxu.1
  subst hu4
  unfold maxLen at hc2
  simp only [List.length_singleton] at hc1 ⊢
  clear hg hc hxk hxu hc28 b23 O2 P2 B2
  go_upto_region 4 with fail
  rw [← hw3, ← hq2]
  clear hw3 hq2
  go_upto_if 39 with fail
  go_cut [12, 13] from 39 to 53 (fun _ _ wx => Hid (LeavesOwn w.heap.size wx (.slice (some ⟨g, off, none⟩) 1 co) [x0]) ∧ Hid (VOwn 3 w.heap.size wx (.slice (some ⟨q2, 0, none⟩) 1 1) [bvT b G x0]) ∧ Hid (Below w.heap.size w wx))
  case first =>
    by_cases hG : G < (x0.rules.length : Int)
    · have hG' : decide (G < (x0.rules.length : Int)) = true := by simpa using hG
      have HG : Hid (G < (x0.rules.length : Int)) := hG
      have YES : Hid ((bestO x0.cube.1 x0.cube.2 x0.rules b 104).isSome = true → bvT b G x0 = .int .i64 (bI (bestO x0.cube.1 x0.cube.2 x0.rules b 104) : Nat)) := fun h => by unfold bvT; rw [bitI_some (bitO_yes HG.out h)]
      have NO : Hid ((bestO x0.cube.1 x0.cube.2 x0.rules b 104).isSome = false → bvT b G x0 = .int .i64 (-1)) := fun h => by unfold bvT; rw [bitI_none (bitO_no h)]
      generalize ((bI (bestO x0.cube.1 x0.cube.2 x0.rules b 104) : Nat) : Int) = z at BX YES
      generalize (bestO x0.cube.1 x0.cube.2 x0.rules b 104).isSome = yy at BX YES NO
      generalize x0.rules.length = rl at *
      go_wp2_with fail
      have ne1 := Later.ne w3
      refine wp_region_later (by kernel_rfl) (by kernel_rfl) ?_
      repeat go_big_quiet_step (fail)
      refine qlC rfl _ rfl w.heap.size rfl Z Z P3.out hZl hZl ?_
      simp only [Act.put, List.setIfInBounds_toArray, List.set_cons_succ, List.set_cons_zero]
      repeat go_big_quiet_step (fail)
      go_big_quiet_want; go_big_quiet_op
      refine ⟨_, fun u => Calls.later_of (BX.out u.world u.below), ?_⟩
      go_big_quiet_on
      repeat go_big_quiet_step (fail)
      refine wpQuiet_nil ?_
      rintro w4 ⟨v5, rfl⟩
      have hb4 := v5.below
      obtain ⟨w4, hw4⟩ : ∃ w4, w4 = v5.world := ⟨_, rfl⟩
      rw [← hw4] at hb4 ⊢
      have B4 : Hid (Below w.heap.size w w4) := below_stepR B3.out B3.out.size hb4
      have O4 : Hid (LeavesOwn w.heap.size w4 (.slice (some ⟨g, off, none⟩) 1 co) [x0]) := NOwn.below LfR.below O3.out hb4
      have V4 : Hid (VOwn 3 w.heap.size w4 (.slice (some ⟨q2, 0, none⟩) 1 1) [.int .i64 (-1)]) := V3.out.below hb4
      clear hb4 hw4 v5 ne1 e28 d28
      cases hy : yy with
      | false =>
        have V5 : Hid (VOwn 3 w.heap.size w4 (.slice (some ⟨q2, 0, none⟩) 1 1) [bvT b G x0]) := by show VOwn _ _ _ _ _; rw [NO.out hy]; exact V4.out
        clear hy
        go_wp2_with fail
        go_meet
        exact ⟨O4, V5, B4⟩
      | true =>
        obtain ⟨c0, hc0, _, hf0⟩ := V4.out.cell 0 (by simp)
        have hgr := V4.out.setBelow 0 (.int .i64 z)
        have V5 : Hid (VOwn 3 w.heap.size (w4.setCell ⟨q2, 0, none⟩ (.int .i64 z)) (.slice (some ⟨q2, 0, none⟩) 1 1) [bvT b G x0]) := by
          have h := V4.out.set 0 (.int .i64 z)
          rw [YES.out hy]
          exact h
        have hq : w.heap.size ≤ q2 := (V4.out.ge q2 rfl).1
        have B5 : Hid (Below w.heap.size w (w4.setCell ⟨q2, 0, none⟩ (.int .i64 z))) := B4.out.setCell hq _
        have O5 : Hid (LeavesOwn w.heap.size (w4.setCell ⟨q2, 0, none⟩ (.int .i64 z)) (.slice (some ⟨g, off, none⟩) 1 co) [x0]) := by
          obtain ⟨n9, xs9, hr9⟩ := own_row12 O4.out
          exact NOwn.grown hgr O4.out (own_apart V4.out hr9 int_ne_leaf) fun _ _ hq => LfR.grownI V4.out hgr hq
        clear hy hgr
        go_wp2_with fail
        go_meet
        exact ⟨O5, V5, B5⟩
    · have hG' : decide (G < (x0.rules.length : Int)) = false := by simpa using hG
      have V5 : Hid (VOwn 3 w.heap.size w3 (.slice (some ⟨q2, 0, none⟩) 1 1) [bvT b G x0]) := by show VOwn _ _ _ _ _; unfold bvT; rw [bitI_none (bitO_low hG)]; exact V3.out
      go_wp2_with fail
      go_meet
      exact ⟨O3, V5, B3⟩
  case rest =>
    obtain ⟨O4, V4, B4⟩ := hcut
    have S4 : Hid (∀ x ∈ [x0], x.rules.length ≤ 100000) := fun x hx => by simp at hx; rw [hx]; exact hcl
    have R4 : Hid (RES = refR b L G [x0]) := HRES
    clear BX O3 V3 P3 B3 d28 e28 K3 X0OK hc1 hc2 HXC HRES hcl
    go_wp2_with fail
    go_loopw [10, 11] (fun v10 v11 wr => ∃ (out : List LeafM), out.length ≤ 1001 ∧ sLen v10 = out.length ∧ Hid (RES = refR b L G out) ∧ Hid (LeavesOwn w.heap.size wr v10 out) ∧ Hid (VOwn 3 w.heap.size wr v11 (out.map (bvT b G))) ∧ Hid (∀ x ∈ out, x.rules.length ≤ 100000) ∧ Hid (Below w.heap.size w wr)) (fun v10 _ _ => (L - (sLen v10 : Int)).toNat)
    case atStart => exact ⟨[x0], by simp, rfl, R4, O4, V4, S4, B4⟩
    case round =>
      clear O4 V4 S4 B4 R4
      obtain ⟨out, hol, hsl, HT, HO, HV, HS, HB⟩ := hrel
      obtain ⟨oo, co, hv10, hc1, hc2⟩ := leaves_own_slice HO.out
      obtain ⟨ob, cb, hv11, hb1, hb2⟩ := HV.out.sl.slice
      rw [List.length_map] at hv11 hb1
      obtain ⟨n, hn0⟩ : ∃ n, n = out.length := ⟨_, rfl⟩
      have HN0 : Hid (n = out.length) := hn0
      rw [← hn0] at hv10 hv11 hc1 hb1 hol
      subst hv10
      subst hv11
      clear hsl hn0
      unfold maxLen at hc2 hb2
      obtain ⟨wo, hwo⟩ : ∃ wo : World, wo = wr := ⟨_, rfl⟩
      rw [← hwo] at HO HV HB ⊢
      clear hwo wr
      by_cases hlt : (n : Int) < L
      · have HLT : Hid ((out.length : Int) < L) := by show _ < _; rw [← HN0.out]; exact hlt
        go_wp2_with fail
        go_loopw [14, 15] (fun va vi wx => ∃ (k : Nat), k ≤ n ∧ vi = .int .i64 (k : Int) ∧ va = .int .i64 (pkI (pickS (canB b G) out k)) ∧ Hid (Below wo.heap.size wo wx)) (fun _ vi _ => n - (intOf vi).toNat)
        case atStart => exact ⟨0, Nat.zero_le _, rfl, rfl, Below.refl _ _⟩
        case round =>
          obtain ⟨k, hk, rfl, rfl, HX⟩ := hrel
          have OX : Hid (LeavesOwn w.heap.size wr (.slice oo n co) out) := NOwn.below LfR.below HO.out HX.out
          have VX : Hid (VOwn 3 w.heap.size wr (.slice ob n cb) (out.map (bvT b G))) := HV.out.below HX.out
          by_cases hkn : k < n
          · have hkn' : (k : Int) < (n : Int) := by omega
            obtain ⟨g, off, cur, ty, fr, x, u, rfl, hg, hc, hxk, hxu⟩ := (leaves_sl OX.out).at k hkn
            obtain ⟨g2, o2, c2, rfl, ⟨cur2, ty2, fr2, hg2, hc2'⟩, hl2⟩ := VX.out.sl.row k hkn
            have hbx : c2 = bvT b G x := by
              rw [List.getElem?_map, hxk] at hl2
              exact (Option.some.inj hl2).symm
            subst hbx
            obtain ⟨o3, m3, hu3⟩ := hxu.slice
            have hc28 : cur[off + k * 29 + 28]? = some u := by
              have h3 := hc 28 (by show 28 < 29; omega)
              rw [(leaf_at hxu.1 u).2.2.2] at h3
              exact h3
            subst hu3
            have K1 : Hid (wr.heap[g]? = some (.cells cur ty fr)) := hg
            have e28 : ∀ v : Later wr, v.world.cell? ⟨g, off + k * 29 + 28, none⟩ = some (.slice o3 x.rules.length m3) := later_cell12 K1.out hc28
            have HXK : Hid (out[k]? = some x) := hxk
            have ne1 := Later.ne wr
            have lb := later_cell12 hg2 hc2'
            unfold bvT at lb
            have AT : Hid (LeavesAt w.heap.size wr (.slice (some ⟨g, off, none⟩) n co) out) := leaves_sl OX.out
            clear hg hc hxk hxu hg2 hc2' hl2 OX VX
            cases hbit : bitO b G x with
            | none =>
              have ebit : ∀ v : Later wr, v.world.cell? ⟨g2, o2 + k, none⟩ = some (.int .i64 (-1)) := by
                rw [bitI_none hbit] at lb
                exact lb
              have PK : Hid (pickS (canB b G) out (k + 1) = pickS (canB b G) out k) := pick_skip HXK.out (by unfold canB; rw [hbit]; rfl)
              obtain ⟨pv, hpv⟩ : ∃ pv, pv = pkI (pickS (canB b G) out k) := ⟨_, rfl⟩
              have PV : Hid (pv = pkI (pickS (canB b G) out k)) := hpv
              rw [← hpv]
              clear hbit lb hpv AT HXK
              go_wp2_with fail
              refine wp_region_later (by kernel_rfl) (by kernel_rfl) ?_
              repeat go_big_quiet_step (fail)
              refine wpQuiet_nil ?_
              rintro w3 ⟨v5, rfl⟩
              have hb3 := v5.below
              obtain ⟨w3, hw3⟩ : ∃ w3, w3 = v5.world := ⟨_, rfl⟩
              rw [← hw3] at hb3 ⊢
              have B3 : Hid (Below wo.heap.size wo w3) := below_stepR HX.out HX.out.size hb3
              clear hb3 hw3 v5 ne1 e28 ebit
              go_wp2_with fail
              go_roundw
              case rel => exact ⟨k + 1, by omega, by go_num, by rw [PK.out]; rw [← PV.out], B3⟩
              case measure => simp [intOf]; omega
            | some z =>
              have ebit : ∀ v : Later wr, v.world.cell? ⟨g2, o2 + k, none⟩ = some (.int .i64 (z : Int)) := by
                rw [bitI_some hbit] at lb
                exact lb
              have hcan : canB b G x = true := by unfold canB; rw [hbit]; rfl
              cases hp : pickS (canB b G) out k with
              | none =>
                have PK : Hid (pickS (canB b G) out (k + 1) = some k) := pick_first HXK.out hcan hp
                have hpk : pkI none = -1 := rfl
                rw [hpk]
                clear hbit lb hp hcan hpk AT HXK
                go_wp2_with fail
                refine wp_region_later (by kernel_rfl) (by kernel_rfl) ?_
                repeat go_big_quiet_step (fail)
                refine wpQuiet_nil ?_
                rintro w3 ⟨v5, rfl⟩
                have hb3 := v5.below
                obtain ⟨w3, hw3⟩ : ∃ w3, w3 = v5.world := ⟨_, rfl⟩
                rw [← hw3] at hb3 ⊢
                have B3 : Hid (Below wo.heap.size wo w3) := below_stepR HX.out HX.out.size hb3
                clear hb3 hw3 v5 ne1 e28 ebit
                go_wp2_with fail
                go_roundw
                case rel => exact ⟨k + 1, by omega, by go_num, by rw [PK.out]; rfl, B3⟩
                case measure => simp [intOf]; omega
              | some i =>
                have hpi := pick_is (canB b G) out k (by rw [← HN0.out]; omega)
                rw [hp] at hpi
                obtain ⟨hik, y, hyi, _, _, _⟩ := hpi
                have hin' : (i : Int) < (n : Int) := by omega
                have hi0 : decide ((i : Int) < 0) = false := by simp
                obtain ⟨g', off', cur', ty', fr', y', u', he, hg', hc', hyi', hyu⟩ := AT.out.at i (by omega)
                obtain rfl : y = y' := by rw [hyi] at hyi'; exact Option.some.inj hyi'
                simp only [Option.some.injEq, Addr.mk.injEq] at he
                obtain ⟨rfl, rfl, _⟩ := he
                obtain ⟨o5, m5, hu5⟩ := hyu.slice
                have hd28 : cur'[off + i * 29 + 28]? = some u' := by
                  have h3 := hc' 28 (by show 28 < 29; omega)
                  rw [(leaf_at hyu.1 u').2.2.2] at h3
                  exact h3
                subst hu5
                have f28 : ∀ v : Later wr, v.world.cell? ⟨g, off + i * 29 + 28, none⟩ = some (.slice o5 y.rules.length m5) := later_cell12 hg' hd28
                have hpk : pkI (some i) = (i : Int) := rfl
                rw [hpk]
                by_cases hlen : y.rules.length < x.rules.length
                · have PK : Hid (pickS (canB b G) out (k + 1) = some k) := pick_more HXK.out hcan hp hyi hlen
                  have hdl : decide ((y.rules.length : Int) < (x.rules.length : Int)) = true := by simpa using hlen
                  have hdl2 : decide (y.rules.length < x.rules.length) = true := by simpa using hlen
                  generalize x.rules.length = rx at *
                  generalize y.rules.length = ry at *
                  clear hbit lb hp hcan hpk hyi hyi' hg' hc' hyu hd28 AT HXK hlen
                  go_wp2_with fail
                  refine wp_region_later (by kernel_rfl) (by kernel_rfl) ?_
                  repeat go_big_quiet_step (fail)
                  refine wpQuiet_nil ?_
                  rintro w3 ⟨v5, rfl⟩
                  have hb3 := v5.below
                  obtain ⟨w3, hw3⟩ : ∃ w3, w3 = v5.world := ⟨_, rfl⟩
                  rw [← hw3] at hb3 ⊢
                  have B3 : Hid (Below wo.heap.size wo w3) := below_stepR HX.out HX.out.size hb3
                  clear hb3 hw3 v5 ne1 e28 ebit
                  go_wp2_with fail
                  go_roundw
                  case rel => exact ⟨k + 1, by omega, by go_num, by rw [PK.out]; rfl, B3⟩
                  case measure => simp [intOf]; omega
                · have PK : Hid (pickS (canB b G) out (k + 1) = some i) := pick_stay HXK.out hp hyi hlen
                  have hdl : decide ((y.rules.length : Int) < (x.rules.length : Int)) = false := by simpa using hlen
                  have hdl2 : decide (y.rules.length < x.rules.length) = false := by simpa using hlen
                  generalize x.rules.length = rx at *
                  generalize y.rules.length = ry at *
                  clear hbit lb hp hcan hpk hyi hyi' hg' hc' hyu hd28 AT HXK hlen
                  go_wp2_with fail
                  refine wp_region_later (by kernel_rfl) (by kernel_rfl) ?_
                  repeat go_big_quiet_step (fail)
                  refine wpQuiet_nil ?_
                  rintro w3 ⟨v5, rfl⟩
                  have hb3 := v5.below
                  obtain ⟨w3, hw3⟩ : ∃ w3, w3 = v5.world := ⟨_, rfl⟩
                  rw [← hw3] at hb3 ⊢
                  have B3 : Hid (Below wo.heap.size wo w3) := below_stepR HX.out HX.out.size hb3
                  clear hb3 hw3 v5 ne1 e28 ebit
                  go_wp2_with fail
                  go_roundw
                  case rel => exact ⟨k + 1, by omega, by go_num, by rw [PK.out]; rfl, B3⟩
                  case measure => simp [intOf]; omega
          · have hkn' : ¬ (k : Int) < (n : Int) := by omega
            obtain rfl : n = k := by omega
            cases hp : pickS (canB b G) out n with
            | none =>
              have HE : Hid (RES = out) := by show _ = _; rw [HT.out]; exact ref_stop (by rw [← HN0.out]; exact hp)
              have O9 : Hid (LeavesOwn w.heap.size wr (.slice oo n co) RES) := by show LeavesOwn _ _ _ _; rw [HE.out]; exact OX.out
              have B9 : Hid (Below w.heap.size w wr) := below_stepR HB.out HB.out.size HX.out
              have hpk : pkI none = -1 := rfl
              rw [hpk]
              clear hp hpk OX VX HX
              go_wp2_with fail
              go_ret
              exact ⟨⟨_, rfl, O9.out⟩, B9.out⟩
            | some p =>
              have hpi := pick_is (canB b G) out n (by rw [HN0.out]; exact Nat.le_refl _)
              rw [hp] at hpi
              obtain ⟨hpn, xp, hxp, hcp, _, _⟩ := hpi
              have HP : Hid (pickS (canB b G) out out.length = some p) := by show _ = _; rw [← HN0.out]; exact hp
              have HXP : Hid (out[p]? = some xp) := hxp
              have HCP : Hid (canB b G xp = true) := hcp
              obtain ⟨z, hz⟩ : ∃ z, bitO b G xp = some z := Option.isSome_iff_exists.1 hcp
              have HZ : Hid (bitO b G xp = some z) := hz
              obtain ⟨cuts, hcuts⟩ : ∃ cuts, cuts = [halfL xp z false, halfL xp z true] := ⟨_, rfl⟩
              have HCU : Hid (cuts = [halfL xp z false, halfL xp z true]) := hcuts
              have hz104 : z < 104 := (bit_free hz).1
              have hpk : pkI (some p) = (p : Int) := rfl
              rw [hpk]
              have hp0 : ¬ (p : Int) < 0 := by omega
              have BR : Hid (Below w.heap.size w wr) := below_stepR HB.out HB.out.size HX.out
              obtain ⟨w5, hw5⟩ : ∃ w5, w5 = wr.alloc (.cells #[] 48) := ⟨_, rfl⟩
              obtain ⟨w6, hw6⟩ : ∃ w6, w6 = w5.alloc (.cells #[] 3) := ⟨_, rfl⟩
              obtain ⟨q5, hq5⟩ : ∃ q5, q5 = wr.heap.size := ⟨_, rfl⟩
              obtain ⟨q6, hq6⟩ : ∃ q6, q6 = w5.heap.size := ⟨_, rfl⟩
              have b5 : Below wr.heap.size wr w5 := by rw [hw5]; exact (Below.refl _ _).alloc (Nat.le_refl _) _
              have b6 : Below w5.heap.size w5 w6 := by rw [hw6]; exact (Below.refl _ _).alloc (Nat.le_refl _) _
              have bb : Below wr.heap.size wr w6 := b5.trans (b6.mono b5.size)
              have B6 : Hid (Below w.heap.size w w6) := below_stepR BR.out BR.out.size bb
              have N5 : LeavesOwn w.heap.size w5 (.slice (some ⟨q5, 0, none⟩) 0 0) [] := by
                rw [hw5, hq5]
                exact ⟨[], rfl, own_base (own0R wr 48 29) BR.out.size, fun p hp => by simp at hp⟩
              have M6 : VOwn 3 w.heap.size w6 (.slice (some ⟨q6, 0, none⟩) 0 0) [] := by
                rw [hw6, hq6]
                exact (vown0 w5 3).base (Nat.le_trans BR.out.size b5.size)
              have T6 : Hid (TrS b G w.heap.size w6 (.slice oo n co) (.slice ob n cb) (.slice (some ⟨q5, 0, none⟩) 0 0) (.slice (some ⟨q6, 0, none⟩) 0 0) out [] []) :=
                ⟨NOwn.below LfR.below OX.out bb, VX.out.below bb, NOwn.below LfR.below N5 b6, M6, fun g hg h2 => by
                  have h1 := own_lt12 OX.out g h2
                  simp only [Value.ownBlock, Option.some.injEq] at hg
                  omega, fun g hg h2 => by
                  have h1 := (VX.out.ge g h2).2
                  have h3 := b5.size
                  simp only [Value.ownBlock, Option.some.injEq] at hg
                  omega⟩
              have W5 : Hid (w5 = _) := hw5
              have W6 : Hid (w6 = _) := hw6
              have Q5 : Hid (q5 = _) := hq5
              have Q6 : Hid (q6 = _) := hq6
              clear hw5 hw6 hq5 hq6 b5 b6 bb N5 M6 hp hxp hcp hz hcuts hpk OX VX HX BR
              go_wp2_with (first | (refine wl_build0R (E := LeafE) LeafOk rfl rfl ?_; refine of_stopT ?_))
              unfold StopT
              rw [show LeafE.elem = 48 from rfl, ← W5.out, ← Q5.out]
              go_wp2_with (first | (refine wl_build0V scI rfl rfl ?_; refine of_stopT ?_))
              unfold StopT
              rw [← W6.out, ← Q6.out]
              clear W5 W6 Q5 Q6
              go_wp2_with fail
              go_loopw [16, 17, 18] (fun v16 v17 vi wx => ∃ (k : Nat), k ≤ n ∧ vi = .int .i64 (k : Int) ∧ Hid (TrS b G w.heap.size wx (.slice oo n co) (.slice ob n cb) v16 v17 out (nxT cuts p out k) ((nxT cuts p out k).map (bvT b G))) ∧ Hid (Below w.heap.size w wx)) (fun _ _ vi _ => n - (intOf vi).toNat)
              case atStart => exact ⟨0, Nat.zero_le _, rfl, T6, B6⟩
              case round =>
                clear T6 B6
                obtain ⟨k, hk, rfl, TX, BX⟩ := hrel
                by_cases hkn : k < n
                · have hkn' : (k : Int) < (n : Int) := by omega
                  by_cases hkp : k = p
                  · subst hkp
                    have TP : Hid (TrS b G w.heap.size wr (.slice oo n co) (.slice ob n cb) u16 u17 out (nxT cuts k out k ++ cuts.take 0) ((nxT cuts k out k ++ cuts.take 0).map (bvT b G))) := by
                      have h := TX.out
                      show TrS _ _ _ _ _ _ _ _ _ _ _
                      rw [List.take_zero, List.append_nil]
                      exact h
                    have NL : Hid ((nxT cuts k out k).length ≤ 2000) := by
                      have h := nx_len cuts k out k
                      rw [HCU.out] at h ⊢
                      simp only [List.length_cons, List.length_nil] at h
                      show _ ≤ _
                      omega
                    clear TX
                    go_wp2_with fail
                    go_loopw [16, 17, 19] (fun v16 v17 vv wx => ∃ (v : Nat), v ≤ 2 ∧ vv = .int .i64 (v : Int) ∧ Hid (TrS b G w.heap.size wx (.slice oo n co) (.slice ob n cb) v16 v17 out (nxT cuts k out k ++ cuts.take v) ((nxT cuts k out k ++ cuts.take v).map (bvT b G))) ∧ Hid (Below w.heap.size w wx)) (fun _ _ vv _ => 2 - (intOf vv).toNat)
                    case atStart => exact ⟨0, by omega, rfl, TP, BX⟩
                    case round =>
                      clear TP BX
                      obtain ⟨v, hv, rfl, TY, BY⟩ := hrel
                      by_cases hv2 : v < 2
                      · have hv2' : (v : Int) < 2 := by omega
                        obtain ⟨c, hvc⟩ : ∃ c : Bool, (v = 0 ∧ c = false) ∨ (v = 1 ∧ c = true) := by
                          rcases (show v = 0 ∨ v = 1 by omega) with rfl | rfl
                          · exact ⟨false, .inl ⟨rfl, rfl⟩⟩
                          · exact ⟨true, .inr ⟨rfl, rfl⟩⟩
                        have HTK : Hid (cuts.take (v + 1) = cuts.take v ++ [halfL xp z c]) := by
                          show _ = _
                          rw [HCU.out]
                          rcases hvc with ⟨rfl, rfl⟩ | ⟨rfl, rfl⟩ <;> rfl
                        have CL : Hid ((nxT cuts k out k ++ cuts.take v).length ≤ 2002) := by
                          show _ ≤ _
                          rw [List.length_append, List.length_take]
                          have := NL.out
                          omega
                        obtain ⟨g, off, cur, ty, fr, x, u, rfl, hg, hc, hxk, hxu⟩ := (leaves_sl TY.out.o).at k hkn
                        obtain rfl : xp = x := by rw [HXP.out] at hxk; exact Option.some.inj hxk
                        obtain ⟨g2, o2, c2, rfl, ⟨cur2, ty2, fr2, hg2, hc2'⟩, hl2⟩ := TY.out.bits.sl.row k hkn
                        have hbx : c2 = .int .i64 (z : Int) := by
                          rw [List.getElem?_map, HXP.out] at hl2
                          rw [← Option.some.inj hl2]
                          show bvT b G xp = _
                          unfold bvT
                          rw [bitI_some HZ.out]
                        subst hbx
                        have hok := hxu.1
                        have hru := hxu.rules
                        have hrl : xp.rules.length ≤ 100000 := HS.out xp (List.mem_of_getElem? HXP.out)
                        obtain ⟨o3, m3, rfl⟩ := hxu.slice
                        have hcc : ∀ j, j < 26 → cur[off + k * 29 + j]? = (cv xp.cube.1 xp.cube.2)[j]? := fun j hj => by
                          have h3 := hc j (by show j < 29; omega)
                          rw [(leaf_at hok _).1 j hj] at h3
                          exact h3
                        have hc28 : cur[off + k * 29 + 28]? = some (.slice o3 xp.rules.length m3) := by
                          have h3 := hc 28 (by show 28 < 29; omega)
                          rw [(leaf_at hok _).2.2.2] at h3
                          exact h3
                        have hAV : Byt (fixV xp.cube.1 xp.cube.2 z c) := setb_byt _ z c
                        have hAM : Byt (fixM xp.cube.2 z) := setb_byt _ z true
                        have HF : ∀ W, Calls Try.prog 50 #[.agg (cv xp.cube.1 xp.cube.2), .int .i64 (z : Int), .int .i64 (v : Int)] W fun e w' => e = .returned (.agg (cv (fixV xp.cube.1 xp.cube.2 z c) (fixM xp.cube.2 z))) ∧ Below W.heap.size W w' := fun W => by
                          rcases hvc with ⟨rfl, rfl⟩ | ⟨rfl, rfl⟩
                          · exact rhalf_any xp.cube.1 xp.cube.2 hok.1 hok.2.1 z hz104 false W
                          · exact rhalf_any xp.cube.1 xp.cube.2 hok.1 hok.2.1 z hz104 true W
                        have HXH : Hid (halfL xp z c = ⟨(fixV xp.cube.1 xp.cube.2 z c, fixM xp.cube.2 z), 0, 0, clipT (fixV xp.cube.1 xp.cube.2 z c) (fixM xp.cube.2 z) xp.rules⟩) := rfl
                        generalize fixV xp.cube.1 xp.cube.2 z c = AV at hAV HF HXH
                        generalize fixM xp.cube.2 z = AM at hAM HF HXH
                        obtain ⟨xh, hxh⟩ : ∃ xh, xh = halfL xp z c := ⟨_, rfl⟩
                        rw [← hxh] at HTK HXH
                        have KG : Hid (wr.heap[g]? = some (.cells cur ty fr)) := hg
                        have C28 : Hid (cur[off + k * 29 + 28]? = some (.slice o3 xp.rules.length m3)) := hc28
                        have HRU : Hid (RulesAt wr (.slice o3 xp.rules.length m3) xp.rules) := hru
                        have HOK : Hid (okL xp) := hok
                        have hAVl := hAV.1
                        have hAMl := hAM.1
                        clear hg hc hxk hxu hl2 hvc hxh hok hru hc28
                        go_wp2_with fail
                        refine t28_region (by first | simp | exact Nat.le_of_ble_eq_true rfl) k v n co n cb g off g2 o2 xp.cube.1 xp.cube.2 AV AM HOK.out.1.1 HOK.out.2.1.1 hAVl hAMl z cur cur2 ty ty2 fr fr2 rfl rfl rfl rfl hkn hkn KG.out hcc hg2 hc2' HF ?_
                        intro y28 w3 gq hy20 hb3 hgq hcq
                        have T3 : Hid (TrS b G w.heap.size w3 (.slice (some ⟨g, off, none⟩) n co) (.slice (some ⟨g2, o2, none⟩) n cb) u16 u17 out (nxT cuts k out k ++ cuts.take v) ((nxT cuts k out k ++ cuts.take v).map (bvT b G))) := TY.out.below hb3
                        have B3 : Hid (Below w.heap.size w w3) := below_stepR BY.out BY.out.size hb3
                        have K3 : Hid (w3.heap[g]? = some (.cells cur ty fr)) := (hb3.block _ (Array.getElem?_eq_some_iff.1 KG.out).1).trans KG.out
                        have R3 : Hid (RulesAt w3 (.slice o3 xp.rules.length m3) xp.rules) := GSl.below HRU.out hb3
                        have Q3 : Hid (w3.heap[gq]? = some (.cells (cv AV AM) 42 (0, 0))) := hcq
                        simp only [putsD, t28_D, List.foldl_cons, List.foldl_nil, Act.put, List.setIfInBounds_toArray, List.set_cons_succ, List.set_cons_zero, hy20]
                        clear hy20 hb3 hgq hcq HRU KG TY BY HF hg2 hc2' hcc
                        go_wp2_with fail
                        refine t29_region (by first | simp | exact Nat.le_of_ble_eq_true rfl) w.heap.size gq k n co g off AV AM hAV hAM xp.rules HOK.out.2.2 hrl (.slice o3 xp.rules.length m3) R3.out B3.out.size cur ty fr rfl Q3.out rfl rfl hkn K3.out C28.out ?_
                        intro y29 w4 gx ux hy21 hb4 hgx hcx hlf
                        rw [← HXH.out] at hcx hlf
                        have T4 : Hid (TrS b G w.heap.size w4 (.slice (some ⟨g, off, none⟩) n co) (.slice (some ⟨g2, o2, none⟩) n cb) u16 u17 out (nxT cuts k out k ++ cuts.take v) ((nxT cuts k out k ++ cuts.take v).map (bvT b G))) := T3.out.below hb4
                        have B4 : Hid (Below w.heap.size w w4) := below_stepR B3.out B3.out.size hb4
                        have Q4 : Hid (w4.heap[gq]? = some (.cells (cv AV AM) 42 (0, 0))) := (hb4.block _ (Array.getElem?_eq_some_iff.1 Q3.out).1).trans Q3.out
                        have X4 : Hid (w4.heap[gx]? = some (.cells (leafV xh ux) LeafE.elem (0, 0))) := hcx
                        have LX : Hid (LfR w.heap.size w4 xh ux) := hlf
                        have hxl : xh.rules.length ≤ 100000 := by rw [HXH.out]; exact Nat.le_trans (clip_len _ _ _) hrl
                        have XC : Hid (xh.cube = (AV, AM)) := by show _ = _; rw [HXH.out]
                        obtain ⟨o6, m6, rfl⟩ := hlf.slice
                        have d28 : w4.cell? ⟨gx, 28, none⟩ = some (.slice o6 xh.rules.length m6) := (cell_of_row _ _ _ _ _ _ hcx).trans (leaf_at hlf.1 _).2.2.2
                        have BX4 : Hid (Calls Try.prog 49 #[.slice o6 xh.rules.length m6, .agg (cv AV AM), .float .f64 b] w4 fun e w' => e = .returned (.tuple #[.int .i64 (bI (bestO xh.cube.1 xh.cube.2 xh.rules b 104) : Nat), .bool (bestO xh.cube.1 xh.cube.2 xh.rules b 104).isSome]) ∧ Below w4.heap.size w4 w') := by
                          have h := BE.out xh (.slice o6 xh.rules.length m6) w4 hlf.1 hxl hlf.rules
                          rw [XC.out] at h ⊢
                          exact h
                        simp only [putsD, t29_D, List.foldl_cons, List.foldl_nil, Act.put, List.setIfInBounds_toArray, List.set_cons_succ, List.set_cons_zero, hy21]
                        clear hy21 hb4 hgx hcx hlf T3 B3 K3 R3 Q3 C28 hAV hAM
                        go_upto_if 145 with fail
                        go_cut [22, 23, 24] from 145 to 155 (fun v22 _ _ wx => Hid (v22 = bvT b G xh) ∧ Hid (Below w4.heap.size w4 wx))
                        case first =>
                          by_cases hG : G < (xh.rules.length : Int)
                          · have hG' : decide (G < (xh.rules.length : Int)) = true := by simpa using hG
                            have HG : Hid (G < (xh.rules.length : Int)) := hG
                            have YES : Hid ((bestO xh.cube.1 xh.cube.2 xh.rules b 104).isSome = true → Value.int .i64 (bI (bestO xh.cube.1 xh.cube.2 xh.rules b 104) : Nat) = bvT b G xh) := fun h => by unfold bvT; rw [bitI_some (bitO_yes HG.out h)]
                            have NO : Hid ((bestO xh.cube.1 xh.cube.2 xh.rules b 104).isSome = false → Value.int .i64 (-1) = bvT b G xh) := fun h => by unfold bvT; rw [bitI_none (bitO_no h)]
                            generalize ((bI (bestO xh.cube.1 xh.cube.2 xh.rules b 104) : Nat) : Int) = zz at BX4 YES
                            generalize (bestO xh.cube.1 xh.cube.2 xh.rules b 104).isSome = yy at BX4 YES NO
                            generalize xh.rules.length = rl at *
                            go_wp2_with (refine wl_loadCw rfl _ rfl gq 0 rfl _ _ _ AV AM hAVl hAMl Q4.out (own_cells _ _) ?_)
                            refine BX4.out.mono ?_
                            rintro e w5 ⟨rfl, hb5⟩
                            have B5 : Hid (Below w4.heap.size w4 w5) := hb5
                            cases hy : yy with
                            | false =>
                              have N5 : Hid (Value.int .i64 (-1) = bvT b G xh) := NO.out hy
                              clear hy hb5
                              go_wp2_with fail
                              go_meet
                              exact ⟨N5, B5⟩
                            | true =>
                              have N5 : Hid (Value.int .i64 zz = bvT b G xh) := YES.out hy
                              clear hy hb5
                              go_wp2_with fail
                              go_meet
                              exact ⟨N5, B5⟩
                          · have hG' : decide (G < (xh.rules.length : Int)) = false := by simpa using hG
                            have N5 : Hid (Value.int .i64 (-1) = bvT b G xh) := by show _ = _; unfold bvT; rw [bitI_none (bitO_low hG)]
                            go_wp2_with fail
                            go_meet
                            exact ⟨N5, (Below.refl _ _ : Below w4.heap.size w4 w4)⟩
                        case rest =>
                          obtain ⟨N22, B5⟩ := hcut
                          obtain ⟨w5, hw5⟩ : ∃ w5 : World, w5 = wc := ⟨_, rfl⟩
                          rw [← hw5] at B5 ⊢
                          have T5 : Hid (TrS b G w.heap.size w5 (.slice (some ⟨g, off, none⟩) n co) (.slice (some ⟨g2, o2, none⟩) n cb) u16 u17 out (nxT cuts k out k ++ cuts.take v) ((nxT cuts k out k ++ cuts.take v).map (bvT b G))) := T4.out.below B5.out
                          have X5 : Hid (w5.heap[gx]? = some (.cells (leafV xh (.slice o6 xh.rules.length m6)) LeafE.elem (0, 0))) := (B5.out.block _ (Array.getElem?_eq_some_iff.1 X4.out).1).trans X4.out
                          have L5 : LfR w.heap.size w5 xh (.slice o6 xh.rules.length m6) := LfR.below _ _ _ _ B5.out LX.out
                          have BB5 : Hid (Below w.heap.size w w5) := below_stepR B4.out B4.out.size B5.out
                          have hsz := leafV_size L5.1 (.slice o6 xh.rules.length m6)
                          obtain ⟨zb, hzb⟩ : ∃ zb, zb = bitI b G xh := ⟨_, rfl⟩
                          have ZB : Hid (Value.int .i64 zb = bvT b G xh) := by show _ = _; rw [hzb]
                          obtain ⟨w6, hw6⟩ : ∃ w6, w6 = w5.alloc (.cells (leafV xh (.slice o6 xh.rules.length m6)) 48) := ⟨_, rfl⟩
                          obtain ⟨q6, hq6⟩ : ∃ q6, q6 = w5.heap.size := ⟨_, rfl⟩
                          have b6 : Below w5.heap.size w5 w6 := by rw [hw6]; exact (Below.refl _ _).alloc (Nat.le_refl _) _
                          have T6 : Hid (TrS b G w.heap.size w6 (.slice (some ⟨g, off, none⟩) n co) (.slice (some ⟨g2, o2, none⟩) n cb) u16 u17 out (nxT cuts k out k ++ cuts.take v) ((nxT cuts k out k ++ cuts.take v).map (bvT b G))) := T5.out.below b6
                          have B6 : Hid (Below w.heap.size w w6) := below_stepR BB5.out BB5.out.size b6
                          have N6 : Hid (LeavesAt w.heap.size w6 (.slice (some ⟨q6, 0, none⟩) 1 1) [xh]) := by
                            show LeavesAt _ _ _ _
                            rw [hw6, hq6]
                            exact leaves_sl (one_own BB5.out.size L5)
                          have N7 : Hid (u22 = .int .i64 zb) := by show _ = _; rw [N22.out, ← ZB.out]
                          clear hzb L5 b6 T5 B5 hw5 T4 B4 X4 Q4 LX BX4 d28 N22
                          rw [N7.out]
                          go_wp2_with (first | (refine wl_loadE (E := LeafE) LeafOk rfl _ rfl gx 0 rfl _ _ _ (leafV xh (.slice o6 xh.rules.length m6)) hsz X5.out (own_cells _ _) ?_) | (refine wl_buildE (E := LeafE) LeafOk rfl _ rfl (leafV xh (.slice o6 xh.rules.length m6)) hsz rfl ?_; refine of_stopT ?_))
                          unfold StopT
                          rw [show LeafE.elem = 48 from rfl, ← hw6, ← hq6]
                          clear hw6 hq6 X5 hsz
                          go_wp2_with (at_builtin; refine of_stopT ?_)
                          unfold StopT
                          refine wl_appL rfl _ _ rfl w.heap.size u16 (.slice (some ⟨q6, 0, none⟩) 1 1) (nxT cuts k out k ++ cuts.take v) [xh] rfl T6.out.n rfl N6.out (by simp) (by have := CL.out; simp only [List.length_singleton]; omega) B6.out.size ?_
                          intro v7 w7 hv7 hgr7 hob7
                          have T7 : Hid (TrS b G w.heap.size w7 (.slice (some ⟨g, off, none⟩) n co) (.slice (some ⟨g2, o2, none⟩) n cb) v7 u17 out (nxT cuts k out k ++ cuts.take v ++ [xh]) ((nxT cuts k out k ++ cuts.take v).map (bvT b G))) := T6.out.addN hgr7 hv7 hob7
                          have B7 : Hid (Below w.heap.size w w7) := below_grown12 B6.out hgr7 (own_ge12 T6.out.n)
                          clear hv7 hgr7 hob7 T6 B6 N6
                          obtain ⟨w8, hw8⟩ : ∃ w8, w8 = w7.alloc (.cells #[.int .i64 zb] 3) := ⟨_, rfl⟩
                          obtain ⟨q8, hq8⟩ : ∃ q8, q8 = w7.heap.size := ⟨_, rfl⟩
                          have b8 : Below w7.heap.size w7 w8 := by rw [hw8]; exact (Below.refl _ _).alloc (Nat.le_refl _) _
                          have B8 : Hid (Below w.heap.size w w8) := below_stepR B7.out B7.out.size b8
                          have g8 : Hid (w8.heap[q8]? = some (.cells #[.int .i64 zb] 3 (0, 0))) := by show _ = _; rw [hw8, hq8]; exact heap_new _ _ _ rfl
                          have T8 : Hid (TrS b G w.heap.size w8 (.slice (some ⟨g, off, none⟩) n co) (.slice (some ⟨g2, o2, none⟩) n cb) v7 u17 out (nxT cuts k out k ++ cuts.take v ++ [xh]) ((nxT cuts k out k ++ cuts.take v).map (bvT b G))) := T7.out.below b8
                          clear b8 T7 B7
                          go_wp2_with (at_builtin; refine of_stopT ?_)
                          unfold StopT
                          rw [← hw8, ← hq8]
                          clear hw8 hq8
                          refine wl_app1V scI rfl _ _ rfl w.heap.size u17 ((nxT cuts k out k ++ cuts.take v).map (bvT b G)) (.int .i64 zb) rfl rfl T8.out.m q8 1 rfl g8.out (by rw [List.length_map]; have := CL.out; omega) B8.out.size ?_
                          intro v9 w9 hv9 hgr9 hob9
                          have T9 : Hid (TrS b G w.heap.size w9 (.slice (some ⟨g, off, none⟩) n co) (.slice (some ⟨g2, o2, none⟩) n cb) v7 v9 out (nxT cuts k out k ++ cuts.take (v + 1)) ((nxT cuts k out k ++ cuts.take (v + 1)).map (bvT b G))) := by
                            show TrS _ _ _ _ _ _ _ _ _ _ _
                            rw [HTK.out, ← List.append_assoc, List.map_append (l₁ := nxT cuts k out k ++ cuts.take v), List.map_singleton]
                            exact T8.out.addM hgr9 (by rw [← ZB.out]; exact hv9) hob9
                          have B9 : Hid (Below w.heap.size w w9) := below_grown12 B8.out hgr9 (fun j hj => (T8.out.m.ge j hj).1)
                          clear hv9 hgr9 hob9 T8 B8 g8 ZB
                          go_wp2_with fail
                          go_roundw
                          case rel => exact ⟨v + 1, by omega, by go_num, T9, B9⟩
                          case measure => simp [intOf]; omega
                      · have hv2' : ¬ (v : Int) < 2 := by omega
                        obtain rfl : v = 2 := by omega
                        have T9 : Hid (TrS b G w.heap.size wr (.slice oo n co) (.slice ob n cb) u16 u17 out (nxT cuts k out (k + 1)) ((nxT cuts k out (k + 1)).map (bvT b G))) := by
                          have h := TY.out
                          show TrS _ _ _ _ _ _ _ _ _ _ _
                          rw [nx_cut]
                          rw [List.take_of_length_le (by rw [HCU.out]; simp)] at h
                          exact h
                        clear TY
                        go_wp2_with fail
                        go_roundw
                        case rel => exact ⟨k + 1, by omega, by go_num, T9, BY⟩
                        case measure => simp [intOf]; omega
                  · have hkp' : ¬ (k : Int) = (p : Int) := by omega
                    obtain ⟨g, off, cur, ty, fr, x, u, rfl, hg, hc, hxk, hxu⟩ := (leaves_sl TX.out.o).at k hkn
                    obtain ⟨o3, m3, rfl⟩ := hxu.slice
                    have hsz := leafV_size hxu.1 (.slice o3 x.rules.length m3)
                    have K1 : Hid (wr.heap[g]? = some (.cells cur ty fr)) := hg
                    have H1 : Hid (∀ j, j < 29 → cur[off + k * 29 + j]? = (leafV x (.slice o3 x.rules.length m3))[j]?) := hc
                    have HXK : Hid (out[k]? = some x) := hxk
                    obtain ⟨w1, hw1⟩ : ∃ w1, w1 = wr.alloc (.cells (leafV x (.slice o3 x.rules.length m3)) 48) := ⟨_, rfl⟩
                    obtain ⟨q1, hq1⟩ : ∃ q1, q1 = wr.heap.size := ⟨_, rfl⟩
                    have b1 : Below wr.heap.size wr w1 := by rw [hw1]; exact (Below.refl _ _).alloc (Nat.le_refl _) _
                    have T1 : Hid (TrS b G w.heap.size w1 (.slice (some ⟨g, off, none⟩) n co) (.slice ob n cb) u16 u17 out (nxT cuts p out k) ((nxT cuts p out k).map (bvT b G))) := TX.out.below b1
                    have B1 : Hid (Below w.heap.size w w1) := below_stepR BX.out BX.out.size b1
                    have N1 : Hid (LeavesAt w.heap.size w1 (.slice (some ⟨q1, 0, none⟩) 1 1) [x]) := by
                      show LeavesAt _ _ _ _
                      rw [hw1, hq1]
                      exact leaves_sl (one_own BX.out.size hxu)
                    have NL : Hid ((nxT cuts p out k).length ≤ 2000) := by
                      have h := nx_len cuts p out k
                      rw [HCU.out] at h ⊢
                      simp only [List.length_cons, List.length_nil] at h
                      show _ ≤ _
                      omega
                    clear hg hc hxk hxu b1 TX BX
                    go_wp2_with (first | (refine wl_loadE (E := LeafE) LeafOk rfl _ rfl g (off + k * 29) rfl cur ty fr (leafV x (.slice o3 x.rules.length m3)) hsz K1.out H1.out ?_) | (refine wl_buildE (E := LeafE) LeafOk rfl _ rfl (leafV x (.slice o3 x.rules.length m3)) hsz rfl ?_; refine of_stopT ?_))
                    unfold StopT
                    rw [show LeafE.elem = 48 from rfl, ← hw1, ← hq1]
                    clear hw1 hq1 K1 H1 hsz
                    go_wp2_with (at_builtin; refine of_stopT ?_)
                    unfold StopT
                    refine wl_appL rfl _ _ rfl w.heap.size u16 (.slice (some ⟨q1, 0, none⟩) 1 1) (nxT cuts p out k) [x] rfl T1.out.n rfl N1.out (by simp) (by have := NL.out; simp only [List.length_singleton]; omega) B1.out.size ?_
                    intro v2 w2 hv2 hgr2 hob2
                    have T2 : Hid (TrS b G w.heap.size w2 (.slice (some ⟨g, off, none⟩) n co) (.slice ob n cb) v2 u17 out (nxT cuts p out k ++ [x]) ((nxT cuts p out k).map (bvT b G))) := T1.out.addN hgr2 hv2 hob2
                    have B2 : Hid (Below w.heap.size w w2) := below_grown12 B1.out hgr2 (own_ge12 T1.out.n)
                    clear hv2 hgr2 hob2 T1 B1 N1
                    obtain ⟨g2, o2, c2, rfl, ⟨cur2, ty2, fr2, hg2, hc2'⟩, hl2⟩ := T2.out.bits.sl.row k hkn
                    have hbx : c2 = bvT b G x := by
                      rw [List.getElem?_map, HXK.out] at hl2
                      exact (Option.some.inj hl2).symm
                    subst hbx
                    have hcb : w2.cell? ⟨g2, o2 + k, none⟩ = some (bvT b G x) := (cell_of_row _ _ _ _ _ _ hg2).trans hc2'
                    obtain ⟨zb, hzb⟩ : ∃ zb, zb = bitI b G x := ⟨_, rfl⟩
                    have ZB : Hid (Value.int .i64 zb = bvT b G x) := by show _ = _; rw [hzb]
                    unfold bvT at hcb
                    rw [← hzb] at hcb
                    obtain ⟨w3, hw3⟩ : ∃ w3, w3 = w2.alloc (.cells #[.int .i64 zb] 3) := ⟨_, rfl⟩
                    obtain ⟨q3, hq3⟩ : ∃ q3, q3 = w2.heap.size := ⟨_, rfl⟩
                    have b3 : Below w2.heap.size w2 w3 := by rw [hw3]; exact (Below.refl _ _).alloc (Nat.le_refl _) _
                    have T3 := T2.out.below b3
                    have B3 : Hid (Below w.heap.size w w3) := below_stepR B2.out B2.out.size b3
                    have g3 : Hid (w3.heap[q3]? = some (.cells #[.int .i64 zb] 3 (0, 0))) := by show _ = _; rw [hw3, hq3]; exact heap_new _ _ _ rfl
                    have T3 : Hid (TrS b G w.heap.size w3 (.slice (some ⟨g, off, none⟩) n co) (.slice (some ⟨g2, o2, none⟩) n cb) v2 u17 out (nxT cuts p out k ++ [x]) ((nxT cuts p out k).map (bvT b G))) := T3
                    clear hzb hl2 hg2 hc2' b3 T2 B2
                    go_wp2_with (at_builtin; refine of_stopT ?_)
                    unfold StopT
                    rw [← hw3, ← hq3]
                    clear hw3 hq3 hcb
                    refine wl_app1V scI rfl _ _ rfl w.heap.size u17 ((nxT cuts p out k).map (bvT b G)) (.int .i64 zb) rfl rfl T3.out.m q3 1 rfl g3.out (by rw [List.length_map]; have := NL.out; omega) B3.out.size ?_
                    intro v4 w4 hv4 hgr4 hob4
                    have T4 : Hid (TrS b G w.heap.size w4 (.slice (some ⟨g, off, none⟩) n co) (.slice (some ⟨g2, o2, none⟩) n cb) v2 v4 out (nxT cuts p out (k + 1)) ((nxT cuts p out (k + 1)).map (bvT b G))) := by
                      show TrS _ _ _ _ _ _ _ _ _ _ _
                      rw [nx_step hkp HXK.out, List.map_append, List.map_singleton]
                      exact T3.out.addM hgr4 (by rw [← ZB.out]; exact hv4) hob4
                    have B4 : Hid (Below w.heap.size w w4) := below_grown12 B3.out hgr4 (fun j hj => (T3.out.m.ge j hj).1)
                    clear hv4 hgr4 hob4 T3 B3 g3 ZB
                    go_wp2_with fail
                    go_roundw
                    case rel => exact ⟨k + 1, by omega, by go_num, T4, B4⟩
                    case measure => simp [intOf]; omega
                · have hkn'' : ¬ (k : Int) < (n : Int) := by omega
                  obtain rfl : n = k := by omega
                  have hst : nxT cuts p out n = stepT12 b G out p := by
                    unfold stepT12
                    rw [HXP.out, HN0.out]
                    dsimp only
                    rw [nx_all (by rw [← HN0.out]; exact hpn), HCU.out, cuts_of HZ.out]
                  have hln : (stepT12 b G out p).length = n + 1 := by rw [step_len HXP.out HCP.out, HN0.out]
                  have T9 : Hid (LeavesOwn w.heap.size wr u16 (stepT12 b G out p)) := by show LeavesOwn _ _ _ _; rw [← hst]; exact TX.out.n
                  have V9 : Hid (VOwn 3 w.heap.size wr u17 ((stepT12 b G out p).map (bvT b G))) := by show VOwn _ _ _ _ _; rw [← hst]; exact TX.out.m
                  have R9 : Hid (RES = refR b L G (stepT12 b G out p)) := by show _ = _; rw [HT.out]; exact ref_step HLT.out HP.out HXP.out HCP.out
                  have S9 : Hid (∀ x ∈ stepT12 b G out p, x.rules.length ≤ 100000) := fun x hx => by
                    unfold stepT12 at hx
                    rw [HXP.out] at hx
                    rcases List.mem_append.1 hx with hx | hx
                    · rcases List.mem_append.1 hx with hx | hx
                      · exact HS.out x (List.mem_of_mem_take hx)
                      · exact Nat.le_trans (Nat.le_of_lt (cuts_fewer HCP.out hx)) (HS.out xp (List.mem_of_getElem? HXP.out))
                    · exact HS.out x (List.mem_of_mem_drop hx)
                  obtain ⟨o9, c9, hu16, _, _⟩ := leaves_own_slice T9.out
                  have hsl9 : sLen u16 = n + 1 := by rw [hu16, ← hln]; rfl
                  have SL : Hid (sLen u16 = n + 1) := hsl9
                  have LN : Hid ((stepT12 b G out p).length = n + 1) := hln
                  clear hst hln hu16 hsl9 TX
                  go_wp2_with fail
                  go_roundw
                  case rel => exact ⟨stepT12 b G out p, by rw [LN.out]; omega, by rw [SL.out, LN.out], R9, T9, V9, S9, BX⟩
                  case measure =>
                    rw [SL.out]
                    show _ < (L - ((n : Nat) : Int)).toNat
                    omega
      · have HE : Hid (RES = out) := by show _ = _; rw [HT.out]; exact ref_full (by rw [← HN0.out]; omega)
        have O9 : Hid (LeavesOwn w.heap.size wo (.slice oo n co) RES) := by show LeavesOwn _ _ _ _; rw [HE.out]; exact HO.out
        go_wp2_with fail
        go_ret
        exact ⟨⟨_, rfl, O9.out⟩, HB.out⟩
end Go.Proofs.Ytpbinkmeldkehaa
