import Derived.Test.YtpbinkmeldkehaaJ30
import Derived.Test.YtpbinkmeldkehaaJ36
import Derived.Test.YtpbinkmeldkehaaJ32
import Derived.Test.YtpbinkmeldkehaaJ22
namespace Go.Proofs.Ytpbinkmeldkehaa
open Go Go.Lib Go.RowKit
set_option maxRecDepth 20000

set_option maxHeartbeats 16000000 in
set_option maxRecDepth 100000 in
theorem lawPlanMeans_any (l0 : List RuleM) (hok0 : ∀ r ∈ l0, okR8 r) (s : Stp) (hs0 : okS s) (z0 : List Int) (H : List Int) (hH : Byt H) (vl vv : Value) (w : World) (hl : RulesAt w vl l0) (hvz : ISl w vv z0) :
    Calls Try.prog 6 #[vl, .agg (stA s), vv, .agg (hv H)] w fun e w' => e = .returned (.bool true) ∧ Below w.heap.size w w' := by
  obtain ⟨ol, nl0, nl, cl, l, rfl, K⟩ := cut24 hok0 hl
  obtain ⟨ov, nv0, nv, cv', z, rfl, J⟩ := cut50 hvz
  have hc1 := K.cap1
  have hc2 := K.cap2
  have hd1 := J.cap1
  have hd2 := J.cap2
  unfold maxLen at hc2 hd2
  have hlle := K.le
  have hvle := J.le
  have HNM : Hid ((nl : Int) = min (nl0 : Int) 24) := K.min
  have HVM : Hid ((nv : Int) = min (nv0 : Int) 50) := J.min
  have hsl := K.slice
  have hsv := J.slice
  have hlen : l.length ≤ 100000 := by rw [K.len]; have := K.min; omega
  have hzl : z.length ≤ 1000 := by rw [J.len]; have := J.min; omega
  obtain ⟨m, hm⟩ : ∃ m, m = min s.pa 24 := ⟨_, rfl⟩
  have HMM : Hid (m = min s.pa 24) := hm
  have AW : Hid (∀ W, Calls Try.prog 9 #[] W fun e w' => e = .returned (.bool true) ∧ Below W.heap.size W w') := fun W => awake14_any W
  obtain ⟨t, ht⟩ : ∃ t, t = stM s m := ⟨_, rfl⟩
  have hbt : Wd t.bi := by rw [ht]; exact hs0.2.2.2
  have hHl := hH.1
  have NO : Hid (rightT t = false → ∀ W, Calls Try.prog 12 #[.slice ol nl cl, .agg (stA t), .slice ov nv cv', .slice none 0 0] W fun e w' => e = .returned (.tuple #[.slice none 0 0, .int .i64 1]) ∧ Below W.heap.size W w') := fun h W => make_no t h _ _ _ W
  have hl24 : l.length ≤ 24 := by rw [K.len]; have := K.min; omega
  have YES : Hid (rightT t = true → ∀ W, Below w.heap.size w W → Calls Try.prog 12 #[.slice ol nl cl, .agg (stA t), .slice ov nv cv', .slice none 0 0] W fun e w' => (e = .returned (.tuple #[.slice none 0 0, .int .i64 15]) ∨ ∃ D v, e = .returned (.tuple #[v, .int .i64 0]) ∧ LeavesOwn W.heap.size w' v D ∧ D.length ≤ 1000 ∧ (∀ x ∈ D, x.rules.length ≤ 500) ∧ ∃ k x, D[k]? = some x ∧ findL (hasL H) D = some k ∧ saysT x.rules H = saysT l H ∧ ∀ n, hasN x n = true → saysT (rulesN D n) H = saysT l H) ∧ Below W.heap.size W w') := fun h W hb => by
    refine (make_yes l K.ok hlen t h hbt z hzl [] (fun x hx => by simp at hx) _ _ _ W (GSl.below K.at_ hb) (VSl.below J.at_ hb) (vsl_nil W)).mono ?_
    rintro e w' ⟨⟨R, h1, h2⟩, h3⟩
    refine ⟨?_, h3⟩
    cases R with
    | none => exact .inl h2
    | some D =>
      obtain ⟨v, h4, h5⟩ := h2
      refine .inr ⟨D, v, h4, h5, ?_, ?_, mean_out h h1 H⟩
      · rcases mk_cases h h1 with ⟨T, o, st, hT, t1, t2, ho, hd, he⟩ | ⟨he, _⟩
        · obtain rfl : D = givL T st.2 T.length := Option.some.inj he
          obtain ⟨b1, b2, b3, b4, b5, b6, b7, b8⟩ := right_rooms h
          have : t.pa.tdiv 2 ≤ 64 := by rw [Int.tdiv_eq_ediv_of_nonneg (by omega)]; omega
          rw [givL_len]
          omega
        · cases he
      · rcases mk_cases h h1 with ⟨T, o, st, hT, t1, t2, ho, hd, he⟩ | ⟨he, _⟩
        · obtain rfl : D = givL T st.2 T.length := Option.some.inj he
          intro x hx
          have := tree_rules hT st.2 T.length x hx
          omega
        · cases he
  have LK : Hid (∀ W, Below w.heap.size w W → Calls Try.prog 18 #[.slice ol nl cl, .agg (hv H)] W fun e w' => e = .returned (.tuple #[.agg (ruleV (lookT l H).1), .bool (lookT l H).2]) ∧ Below W.heap.size W w') := fun W hb => look_any l K.ok _ H hH W (GSl.below K.at_ hb)
  have hr1 := look_ok12 K.ok H
  have LA : Hid (∀ (L : List RuleM) u W, (∀ r ∈ L, okR8 r) → RulesAt W u L → ∀ W', Below W.heap.size W W' → Calls Try.prog 18 #[u, .agg (hv H)] W' fun e w' => e = .returned (.tuple #[.agg (ruleV (lookT L H).1), .bool (lookT L H).2]) ∧ Below W'.heap.size W' w') := fun L u W h1 h2 W' hb => look_any L h1 u H hH W' (GSl.below h2 hb)
  have FI : Hid (∀ (D : List LeafM) (B : Nat) (v : Value) (k : Nat) W, D.length ≤ 1000 → findL (hasL H) D = some k → LeavesAt B W v D → Calls Try.prog 17 #[v, .agg (hv H)] W fun e w' => e = .returned (.tuple #[.int .i64 (k : Int), .bool true]) ∧ Below W.heap.size W w') := fun D B v k W h1 h2 h => by
    have hf := find_any (LfR B) LfR.below (fun w y u hy => ⟨hy.1, by obtain ⟨o, m, e⟩ := hy.slice; exact ⟨o, _, m, e⟩⟩) D (by omega) v H hH W h
    have e1 : findL (fun y => has y.cube.1 y.cube.2 H) D = some k := h2
    rw [e1] at hf
    exact hf
  have IT : Hid (∀ (D : List LeafM) (B : Nat) (v : Value) (n0 : Int) W, D.length ≤ 1000 → (∀ x ∈ D, x.rules.length ≤ 500) → LeavesAt B W v D → Calls Try.prog 19 #[v, .int .i64 n0] W fun e w' => (∃ v, e = .returned v ∧ SlotsOwn W.heap.size w' v (itemsT D n0)) ∧ Below W.heap.size W w') := fun D B v n0 W h1 h2 h3 => items_any D h1 h2 n0 v W (leaves_in h3)
  have ST : Hid (t = stM s m) := ht
  have SY : Hid (∀ L : List RuleM, saysT L H = saysT l H → (lookT L H).2 = (lookT l H).2 ∧ (lookT L H).1.order = (lookT l H).1.order ∧ (lookT L H).1.action = (lookT l H).1.action) := fun L h => says_look h
  obtain ⟨⟨r, ok⟩, hS⟩ : ∃ S, S = lookT l H := ⟨_, rfl⟩
  rw [← hS] at LK hr1 SY
  simp only at LK hr1 SY
  have HR : Hid (okR8 r) := hr1
  have SA0 : Hid ((w.alloc (.cells (stA s) 24)).heap[w.heap.size]? = some (.cells (stA s) 24 (0, 0))) := heap_new _ _ _ rfl
  obtain ⟨wb, hwb⟩ : ∃ wb, wb = (w.alloc (.cells (stA s) 24)).alloc (.cells (hv H) 38) := ⟨_, rfl⟩
  have SA : Hid (wb.heap[w.heap.size]? = some (.cells (stA s) 24 (0, 0))) := by show _ = _; rw [hwb]; exact heap_past _ _ _ _ SA0.out
  have RA : Hid (wb.heap[w.heap.size + 1]? = some (.cells (hv H) 38 (0, 0))) := by show _ = _; rw [hwb]; exact heap_new _ _ _ (by simp)
  have BA : Hid (Below w.heap.size w wb) := by show Below _ _ _; rw [hwb]; exact ((Below.refl _ _).alloc (Nat.le_refl _) _).alloc (by simp) _
  clear K J hok0 hs0 hl hvz hm ht hbt hlen hzl hl24 hr1 hS SA0
  go_enter Try.func6, Try.ntmps6
  go_wp2_with fail
  rw [← hwb]
  clear hwb
  refine (AW.out _).mono ?_
  rintro e w1 ⟨rfl, hb1⟩
  have B1 : Hid (Below w.heap.size w w1) := BA.out.trans (hb1.mono BA.out.size)
  have S1 : Hid (w1.heap[w.heap.size]? = some (.cells (stA s) 24 (0, 0))) := (hb1.block _ (Array.getElem?_eq_some_iff.1 SA.out).1).trans SA.out
  have R1 : Hid (w1.heap[w.heap.size + 1]? = some (.cells (hv H) 38 (0, 0))) := (hb1.block _ (Array.getElem?_eq_some_iff.1 RA.out).1).trans RA.out
  clear hb1 SA RA BA AW
  have c4 := (st_cells S1.out).2.2.2.2.1
  have f4 := st_free S1.out 4
  obtain ⟨w2, hw2⟩ : ∃ w2, w2 = w1.setCell ⟨w.heap.size, 4, none⟩ (.int .i64 m) := ⟨_, rfl⟩
  have S2 : Hid (w2.heap[w.heap.size]? = some (.cells (stA t) 24 (0, 0))) := by show _ = _; rw [hw2, ST.out]; exact st_set S1.out m
  have R2 : Hid (w2.heap[w.heap.size + 1]? = some (.cells (hv H) 38 (0, 0))) := by show _ = _; rw [hw2]; simp [World.setCell, Array.getElem?_modify, R1.out]
  have B2 : Hid (Below w.heap.size w w2) := by show Below _ _ _; rw [hw2]; exact B1.out.setCell (p := ⟨w.heap.size, 4, none⟩) (Nat.le_refl _) _
  go_upto_region 6 with (first | (refine wl_min7 rfl _ _ rfl (nl0 : Int) 24 (nl : Int) rfl rfl HNM.out ?_) | (refine wl_min7 rfl _ _ rfl (nv0 : Int) 50 (nv : Int) rfl rfl HVM.out ?_) | (refine wl_min7 rfl _ _ rfl s.pa 24 m rfl rfl HMM.out ?_))
  rw [← hw2]
  clear hw2 c4 f4 S1 R1 B1 HMM HNM HVM hsl hsv ST
  obtain ⟨gh, hgh⟩ : ∃ gh, gh = w.heap.size + 1 := ⟨_, rfl⟩
  rw [← hgh] at R2 ⊢
  clear hgh
  cases hr : rightT t with
  | false =>
    have NO := NO.out hr
    go_wp2_with (refine wl_loadA StpOk rfl _ rfl w.heap.size 0 rfl _ _ _ (stA t) rfl S2.out (own_cells _ _) ?_)
    refine (NO _).mono ?_
    rintro e w3 ⟨rfl, hb3⟩
    have B3 : Hid (Below w.heap.size w w3) := B2.out.trans (hb3.mono B2.out.size)
    clear hb3
    go_wp2_with fail
    go_ret
    exact ⟨rfl, B3.out⟩
  | true =>
    have YES := YES.out hr
    clear NO hr
    go_wp2_with (refine wl_loadA StpOk rfl _ rfl w.heap.size 0 rfl _ _ _ (stA t) rfl S2.out (own_cells _ _) ?_)
    refine (YES _ B2.out).mono ?_
    rintro e w3 ⟨hor, hb3⟩
    have B3 : Hid (Below w.heap.size w w3) := B2.out.trans (hb3.mono B2.out.size)
    have R3 : Hid (w3.heap[gh]? = some (.cells (hv H) 38 (0, 0))) := (hb3.block _ (Array.getElem?_eq_some_iff.1 R2.out).1).trans R2.out
    clear hb3 YES
    rcases hor with rfl | ⟨D, va, rfl, hva, hD1, hD2, kf, xf, hxf, hfi, hsx, hsn⟩
    · go_wp2_with fail
      go_ret
      exact ⟨rfl, B3.out⟩
    have XF : Hid (D[kf]? = some xf) := hxf
    have FI3 := fun W h => FI.out D w2.heap.size va kf W hD1 hfi h
    have FI : Hid (∀ W, LeavesAt w2.heap.size W va D → Calls Try.prog 17 #[va, .agg (hv H)] W fun e w' => e = .returned (.tuple #[.int .i64 (kf : Int), .bool true]) ∧ Below W.heap.size W w') := FI3
    have IT3 := fun n0 W h => IT.out D w2.heap.size va n0 W hD1 hD2 h
    have IT : Hid (∀ n0 W, LeavesAt w2.heap.size W va D → Calls Try.prog 19 #[va, .int .i64 n0] W fun e w' => (∃ v, e = .returned v ∧ SlotsOwn W.heap.size w' v (itemsT D n0)) ∧ Below W.heap.size W w') := IT3
    obtain ⟨HS1, HS2, HS3⟩ := SY.out xf.rules hsx
    have SN : Hid (∀ n, hasN xf n = true → (lookT (rulesN D n) H).2 = ok ∧ (lookT (rulesN D n) H).1.order = r.order ∧ (lookT (rulesN D n) H).1.action = r.action) := fun n hn => SY.out _ (hsn n hn)
    obtain ⟨B, hB⟩ : ∃ B, B = w2.heap.size := ⟨_, rfl⟩
    rw [← hB] at FI IT hva
    have OKD : Hid (∀ x ∈ D, okL x) := leaves_ok14 (leaves_sl hva)
    obtain ⟨ot, ct, rfl, ht1, ht2⟩ := leaves_own_slice hva
    unfold maxLen at ht2
    obtain ⟨nt, hnt⟩ : ∃ nt, nt = D.length := ⟨_, rfl⟩
    have A3 : Hid (LeavesAt B w3 (.slice ot nt ct) D) := by show LeavesAt _ _ _ _; rw [hnt]; exact leaves_sl hva
    have HNT : Hid (nt = D.length) := hnt
    have hkf : kf < nt := by have := (List.getElem?_eq_some_iff.1 hxf).1; omega
    have hnt1 : nt ≤ 1000 := by omega
    rw [← hnt] at ht1 FI IT ⊢
    have HRN : Hid (∀ n, (rulesN D n).length ≤ 500000) := fun n => by
      have h1 := rulesN_len D n 500 hD2
      have h3 := Nat.mul_le_mul_right 500 hD1
      omega
    clear hxf hfi hsx hsn hva hB hnt FI3 IT3 SY hD1 hD2 S2 R2 B2
    go_wp2_with (refine wl_load26 rfl _ rfl gh rfl H R3.out hHl ?_)
    refine (FI.out _ A3.out).mono ?_
    rintro e w4 ⟨rfl, hb4⟩
    have R4 : Hid (w4.heap[gh]? = some (.cells (hv H) 38 (0, 0))) := (hb4.block _ (Array.getElem?_eq_some_iff.1 R3.out).1).trans R3.out
    have B4 : Hid (Below w.heap.size w w4) := B3.out.trans (hb4.mono B3.out.size)
    have A4 : Hid (LeavesAt B w4 (.slice ot nt ct) D) := NSl.below LfR.below A3.out hb4
    clear hb4 R3 B3 A3 FI
    go_wp2_with (refine wl_load26 rfl _ rfl gh rfl H R4.out hHl ?_)
    refine (LK.out _ B4.out).mono ?_
    rintro e w5 ⟨rfl, hb5⟩
    obtain ⟨w6, hw6⟩ : ∃ w6, w6 = w5.alloc (.cells (ruleV r) 44) := ⟨_, rfl⟩
    have b46 : Below w4.heap.size w4 w6 := by rw [hw6]; exact hb5.alloc hb5.size _
    have R6 : Hid (w6.heap[gh]? = some (.cells (hv H) 38 (0, 0))) := (b46.block _ (Array.getElem?_eq_some_iff.1 R4.out).1).trans R4.out
    have B6 : Hid (Below w.heap.size w w6) := B4.out.trans (b46.mono B4.out.size)
    have X6 : Hid (w6.heap[w5.heap.size]? = some (.cells (ruleV r) 44 (0, 0))) := by show _ = _; rw [hw6]; exact heap_new _ _ _ rfl
    have A6 : Hid (LeavesAt B w6 (.slice ot nt ct) D) := NSl.below LfR.below A4.out b46
    obtain ⟨g, off, cur, ty, fr, x, u, rfl, hg, hc, hxk, hxu⟩ := NSl.at A6.out kf hkf
    obtain rfl : xf = x := by rw [XF.out] at hxk; exact Option.some.inj hxk
    have LY0 := fun W' hb => LA.out xf.rules u w6 hxu.1.2.2 hxu.rules W' hb
    rw [HS1] at LY0
    obtain ⟨r2, hr2e⟩ : ∃ r2, r2 = (lookT xf.rules H).1 := ⟨_, rfl⟩
    have hr2 : okR8 r2 := by rw [hr2e]; exact look_ok12 hxu.1.2.2 H
    rw [← hr2e] at LY0 HS2 HS3
    obtain ⟨o2, m2, hu2⟩ := hxu.slice
    have K1 : Hid (w6.heap[g]? = some (.cells cur ty fr)) := hg
    have hc28 : cur[off + kf * 29 + 28]? = some u := by
      have h3 := hc 28 (by show 28 < 29; omega)
      rw [(leaf_at hxu.1 u).2.2.2] at h3
      exact h3
    have hc26 : cur[off + kf * 29 + 26]? = some (.int .i64 xf.one) := (hc 26 (by show 26 < 29; omega)).trans (leaf_at hxu.1 u).2.1
    have hc27 : cur[off + kf * 29 + 27]? = some (.int .i64 xf.two) := (hc 27 (by show 27 < 29; omega)).trans (leaf_at hxu.1 u).2.2.1
    have hkf' : (kf : Int) < (nt : Int) := by omega
    have LY : Hid (∀ W', Below w6.heap.size w6 W' → Calls Try.prog 18 #[u, .agg (hv H)] W' fun e w' => e = .returned (.tuple #[.agg (ruleV r2), .bool ok]) ∧ Below W'.heap.size W' w') := LY0
    have hfit := rule_fits hr2
    have ho3 : Hid (r2.order = r.order) := HS2
    have ha3 : Hid (r2.action = r.action) := HS3
    have HR2 : Hid (okR8 r2) := hr2
    have P26 : Hid (cur[off + kf * 29 + 26]? = some (.int .i64 xf.one)) := hc26
    have P27 : Hid (cur[off + kf * 29 + 27]? = some (.int .i64 xf.two)) := hc27
    clear hg hc hxk hxu b46 hb5 A4 R4 B4 LY0 hc26 hc27 HS1 HS2 HS3 hr2e XF
    subst hu2
    go_wp2_with (refine wl_storeE (E := RuleE) RuleOk rfl _ _ rfl w5.heap.size (ruleV r) (rule_fits HR.out) rfl rfl _ (heap_new _ _ _ rfl) rfl _ (setRow_new _ _ _ _ _ rfl) ?_; refine of_stopT ?_)
    unfold StopT
    rw [← hw6]
    clear hw6
    generalize w5.heap.size = q5 at X6
    go_wp2_with fail
    have l28 : ∀ v : Later w6, v.world.cell? ⟨g, off + kf * 29 + 28, none⟩ = some (.slice o2 xf.rules.length m2) := later_cell12 K1.out hc28
    have ne1 := Later.ne w6
    refine region_cut (fun a a' w' => ∃ gq y61 y62 y63 y64 y65 y66 y67 y68 y69 y70, a' = ((((((((((((a.put (some 15) (.pointer (some ⟨gq, 0, none⟩))).put (some 16) (.bool ok)).put (some 61) y61).put (some 62) y62).put (some 63) y63).put (some 64) y64).put (some 65) y65).put (some 66) y66).put (some 67) y67).put (some 68) y68).put (some 69) y69).put (some 70) y70) ∧ w6.heap.size ≤ gq ∧ w'.heap[gq]? = some (.cells (ruleV r2) 44 (0, 0)) ∧ Below w6.heap.size w6 w') ?_ ?_
    · refine region_begin 13 rfl (by kernel_rfl) ?_
      refine region_reads 0 6 7 rfl (by kernel_rfl) (by kernel_rfl) (by kernel_rfl) (by intro d v c a w h; exact absurd h.1 (by simp)) ⟨⟨w6.drew, (Below.refl _ _).drew⟩, rfl⟩ ?_
      simp only [List.drop_zero, List.take_succ_cons, List.take_zero]
      repeat go_big_quiet_step (fail)
      refine qlH rfl _ rfl gh rfl H R6.out hHl ?_
      simp only [Act.put, List.setIfInBounds_toArray, List.set_cons_succ, List.set_cons_zero]
      refine wpQuiet_nil ?_
      refine wpAnyH_all (rs := [6, 10]) (by kernel_rfl) (by decide) ?_
      intro i hi
      simp only [List.mem_cons, List.not_mem_nil, or_false] at hi
      rcases hi with rfl | rfl
      · refine wpOp_call rfl rfl 18 #[.tmp 66, .tmp 67] (by intro b w; have hf := Try.func18; simp [go_sem]) #[.slice o2 xf.rules.length m2, .agg (hv H)] rfl (fun v w' => v = .tuple #[.agg (ruleV r2), .bool ok] ∧ Below w6.drew.heap.size w6.drew w') ((LY.out _ (by first | exact (Below.refl w6.heap.size w6).drew | exact ha)).mono fun e w' h => ⟨_, h.1, rfl, h.2⟩) (some 68) rfl ?_
        rintro v wz ⟨rfl, hz⟩
        have hy : Below w6.heap.size w6 wz := (Below.refl w6.heap.size w6).drew.trans (hz.mono (Below.refl w6.heap.size w6).drew.size)
        refine ⟨⟨⟨wz, hy⟩, rfl⟩, ?_⟩
        simp only [Act.put, List.setIfInBounds_toArray, List.set_cons_succ, List.set_cons_zero]
        refine region_reads 7 3 3 rfl (by kernel_rfl) (by kernel_rfl) (by kernel_rfl) (by intro d v c a w h; exact absurd h.1 (by simp)) ⟨⟨wz, hy⟩, rfl⟩ ?_
        simp only [List.drop_succ_cons, List.drop_zero, List.take_succ_cons, List.take_zero]
        repeat go_big_quiet_step (fail)
        refine wpQuiet_nil ?_
        refine wpAnyH_all (rs := [10]) (by kernel_rfl) (by decide) ?_
        intro i hi
        obtain rfl := List.mem_singleton.1 hi
        refine wpOp_allocE RuleOk rfl rfl rfl (some 15) rfl ?_
        have ha : Below w6.heap.size w6 (wz.alloc (.cells RuleE.zero 44)) := hy.alloc hy.size _
        have hag : (wz.alloc (.cells RuleE.zero 44)).heap[wz.heap.size]? = some (.cells RuleE.zero 44 (0, 0)) := heap_new _ _ _ rfl
        refine ⟨⟨⟨_, ha⟩, rfl⟩, ?_⟩
        simp only [Act.put, List.setIfInBounds_toArray, List.set_cons_succ, List.set_cons_zero]
        refine wpAnyH_all (rs := [11]) (by kernel_rfl) (by decide) ?_
        intro i hi
        obtain rfl := List.mem_singleton.1 hi
        have hbl : w6.heap.size ≤ wz.heap.size := hy.size
        refine wpOp_of_list rfl ?_
        refine wl_storeE (E := RuleE) RuleOk rfl _ _ rfl (wz.heap.size) (ruleV r2) hfit rfl rfl _ hag rfl _ rfl ?_
        refine ⟨⟨⟨_, below_setRow ha hbl _⟩, rfl⟩, ?_⟩
        refine wpAnyH_all (rs := [12]) (by kernel_rfl) (by decide) ?_
        intro i hi
        obtain rfl := List.mem_singleton.1 hi
        refine wpOp_assign rfl rfl _ rfl (.bool ok) rfl (some 16) rfl ?_
        refine ⟨⟨⟨_, below_setRow ha hbl _⟩, rfl⟩, ?_⟩
        refine wpAnyH_done (by kernel_rfl) ?_ _
        exact ⟨rfl, wz.heap.size, _, _, _, _, _, _, _, _, _, _, rfl, hbl, setRow_heap _ _ _ _ _ _ hag, below_setRow ha hbl _⟩
      · refine wpOp_allocE RuleOk rfl rfl rfl (some 15) rfl ?_
        have ha : Below w6.heap.size w6 (w6.drew.alloc (.cells RuleE.zero 44)) := (Below.refl w6.heap.size w6).drew.alloc (Below.refl w6.heap.size w6).drew.size _
        have hag : (w6.drew.alloc (.cells RuleE.zero 44)).heap[w6.drew.heap.size]? = some (.cells RuleE.zero 44 (0, 0)) := heap_new _ _ _ rfl
        refine ⟨⟨⟨_, ha⟩, rfl⟩, ?_⟩
        simp only [Act.put, List.setIfInBounds_toArray, List.set_cons_succ, List.set_cons_zero]
        refine wpAnyH_all (rs := [6]) (by kernel_rfl) (by decide) ?_
        intro i hi
        obtain rfl := List.mem_singleton.1 hi
        refine wpOp_call rfl rfl 18 #[.tmp 66, .tmp 67] (by intro b w; have hf := Try.func18; simp [go_sem]) #[.slice o2 xf.rules.length m2, .agg (hv H)] rfl (fun v w' => v = .tuple #[.agg (ruleV r2), .bool ok] ∧ Below (w6.drew.alloc (.cells RuleE.zero 44)).heap.size (w6.drew.alloc (.cells RuleE.zero 44)) w') ((LY.out _ (by first | exact (Below.refl w6.heap.size w6).drew | exact ha)).mono fun e w' h => ⟨_, h.1, rfl, h.2⟩) (some 68) rfl ?_
        rintro v wz ⟨rfl, hz⟩
        have hy : Below w6.heap.size w6 wz := ha.trans (hz.mono ha.size)
        have hx : wz.heap[w6.drew.heap.size]? = some (.cells RuleE.zero 44 (0, 0)) := (hz.block _ (Array.getElem?_eq_some_iff.1 hag).1).trans hag
        refine ⟨⟨⟨wz, hy⟩, rfl⟩, ?_⟩
        simp only [Act.put, List.setIfInBounds_toArray, List.set_cons_succ, List.set_cons_zero]
        refine region_reads 7 3 2 rfl (by kernel_rfl) (by kernel_rfl) (by kernel_rfl) (by intro d v c a w h; exact absurd h.1 (by simp)) ⟨⟨wz, hy⟩, rfl⟩ ?_
        simp only [List.drop_succ_cons, List.drop_zero, List.take_succ_cons, List.take_zero]
        repeat go_big_quiet_step (fail)
        refine wpQuiet_nil ?_
        refine wpAnyH_all (rs := [11]) (by kernel_rfl) (by decide) ?_
        intro i hi
        obtain rfl := List.mem_singleton.1 hi
        have hbl : w6.heap.size ≤ w6.drew.heap.size := Nat.le_refl _
        refine wpOp_of_list rfl ?_
        refine wl_storeE (E := RuleE) RuleOk rfl _ _ rfl (w6.drew.heap.size) (ruleV r2) hfit rfl rfl _ hx rfl _ rfl ?_
        refine ⟨⟨⟨_, below_setRow hy hbl _⟩, rfl⟩, ?_⟩
        refine wpAnyH_all (rs := [12]) (by kernel_rfl) (by decide) ?_
        intro i hi
        obtain rfl := List.mem_singleton.1 hi
        refine wpOp_assign rfl rfl _ rfl (.bool ok) rfl (some 16) rfl ?_
        refine ⟨⟨⟨_, below_setRow hy hbl _⟩, rfl⟩, ?_⟩
        refine wpAnyH_done (by kernel_rfl) ?_ _
        exact ⟨rfl, w6.drew.heap.size, _, _, _, _, _, _, _, _, _, _, rfl, hbl, setRow_heap _ _ _ _ _ _ hx, below_setRow hy hbl _⟩
    · rintro a' w' ⟨gq, y61, y62, y63, y64, y65, y66, y67, y68, y69, y70, rfl, hgq, hcq, hbq⟩
      simp only [Act.put, List.setIfInBounds_toArray, List.set_cons_succ, List.set_cons_zero]
      have B7 : Hid (Below w.heap.size w w') := B6.out.trans (hbq.mono B6.out.size)
      have X7 : Hid (w'.heap[q5]? = some (.cells (ruleV r) 44 (0, 0))) := (hbq.block _ (Array.getElem?_eq_some_iff.1 X6.out).1).trans X6.out
      have R7 : Hid (w'.heap[gh]? = some (.cells (hv H) 38 (0, 0))) := (hbq.block _ (Array.getElem?_eq_some_iff.1 R6.out).1).trans R6.out
      have A7 : Hid (LeavesAt B w' (.slice (some ⟨g, off, none⟩) nt ct) D) := NSl.below LfR.below A6.out hbq
      have K7 : Hid (w'.heap[g]? = some (.cells cur ty fr)) := (hbq.block _ (Array.getElem?_eq_some_iff.1 K1.out).1).trans K1.out
      have c0 : w'.cell? ⟨q5, 0, none⟩ = some (.int .i64 r.order) := (cell_of_row _ _ _ _ _ _ X7.out).trans (rule_at HR.out).1
      have c27 : w'.cell? ⟨q5, 27, none⟩ = some (.int .i64 r.action) := (cell_of_row _ _ _ _ _ _ X7.out).trans (rule_at HR.out).2.2
      have d0 : w'.cell? ⟨gq, 0, none⟩ = some (.int .i64 r.order) := (cell_of_row _ _ _ _ _ _ hcq).trans (by rw [← ho3.out]; exact (rule_at HR2.out).1)
      have d27 : w'.cell? ⟨gq, 27, none⟩ = some (.int .i64 r.action) := (cell_of_row _ _ _ _ _ _ hcq).trans (by rw [← ha3.out]; exact (rule_at HR2.out).2.2)
      have hbb : (ok == ok) = true := by simp
      clear hcq hbq hgq l28 ne1 A6 K1 R6 X6 B6 LY LK
      go_wp2_with fail
      clear c0 c27 d0 d27
      obtain ⟨w7, hw7⟩ : ∃ w7 : World, w7 = w' := ⟨_, rfl⟩
      rw [← hw7] at B7 X7 R7 A7 K7 ⊢
      clear hw7
      go_loopw [17] (fun i wr => ∃ j : Nat, j ≤ 2 ∧ i = .int .i64 (j : Int) ∧ Hid (Below w7.heap.size w7 wr)) (fun i _ => 2 - (intOf i).toNat)
      case atStart => exact ⟨0, by omega, rfl, Below.refl _ _⟩
      case round =>
        obtain ⟨j, hj, rfl, HB⟩ := hrel
        have BW : Hid (Below w.heap.size w wr) := B7.out.trans (HB.out.mono B7.out.size)
        have e26 : wr.cell? ⟨g, off + kf * 29 + 26, none⟩ = some (.int .i64 xf.one) := (cell_of_row _ _ _ _ _ _ ((HB.out.block _ (Array.getElem?_eq_some_iff.1 K7.out).1).trans K7.out)).trans P26.out
        have e27 : wr.cell? ⟨g, off + kf * 29 + 27, none⟩ = some (.int .i64 xf.two) := (cell_of_row _ _ _ _ _ _ ((HB.out.block _ (Array.getElem?_eq_some_iff.1 K7.out).1).trans K7.out)).trans P27.out
        have AR : Hid (LeavesAt B wr (.slice (some ⟨g, off, none⟩) nt ct) D) := NSl.below LfR.below A7.out HB.out
        by_cases hj2 : j < 2
        · have hj2' : (j : Int) < 2 := by omega
          have h1N : Hid (hasN xf xf.one = true) := by show _ = _; unfold hasN; simp
          have h2N : Hid (hasN xf xf.two = true) := by show _ = _; unfold hasN; simp
          rcases (show j = 0 ∨ j = 1 by omega) with rfl | rfl
          · obtain ⟨p, hp⟩ : ∃ p, p = xf.one := ⟨_, rfl⟩
            have HN : Hid (hasN xf p = true) := by show _ = _; rw [hp]; exact h1N.out
            rw [← hp] at e26
            clear hp h1N h2N
            go_wp2_with fail
            refine (IT.out _ _ AR.out).mono ?_
            rintro e wi ⟨⟨v20, rfl, hv20⟩, hbi⟩
            have BI : Hid (Below w7.heap.size w7 wi) := HB.out.trans (hbi.mono HB.out.size)
            obtain ⟨oI, cI, rfl⟩ := hv20.slice
            obtain ⟨RN, hRN⟩ : ∃ RN, RN = rulesN D p := ⟨_, rfl⟩
            have HRE : Hid (RN = rulesN D p) := hRN
            obtain ⟨nI, hnI⟩ : ∃ nI, nI = (itemsT D p).length := ⟨_, rfl⟩
            have VI : Hid (GSl SlotE slotV wi (.slice oI nI cI) (seqS D RN)) := by
              show GSl _ _ _ _ _
              rw [hnI, hRN]
              exact hv20.at_
            obtain ⟨_, _, e2, hcm1, hcm2⟩ := GSl.slice VI.out
            simp only [Value.slice.injEq] at e2
            obtain ⟨rfl, -, rfl⟩ := e2
            unfold maxLen at hcm2
            have HNI : Hid (nI = nt + RN.length) := by show _ = _; rw [hnI, hRN, HNT.out]; exact seqS_len _ _
            have hrl : RN.length ≤ 500000 := by rw [hRN]; exact HRN.out p
            have OKR : Hid (∀ r ∈ RN, okR8 r) := by show ∀ r ∈ RN, okR8 r; rw [hRN]; exact rulesN_ok OKD.out p
            rw [show (seqS D RN).length = nI by rw [seqS_len, HNI.out, HNT.out]] at hcm1
            rw [← hnI]
            clear hv20 hbi hRN hnI HB AR e26 e27
            go_wp2_with fail
            go_loopw [19, 21] (fun v i wr => ∃ j : Nat, j ≤ nI ∧ i = .int .i64 (j : Int) ∧ Hid (RulesOwn wi.heap.size wr v (RN.take (j - nt))) ∧ Hid (Below wi.heap.size wi wr)) (fun _ i _ => nI - (intOf i).toNat)
            case atStart => exact ⟨0, Nat.zero_le _, rfl, by show RulesOwn _ _ _ _; rw [Nat.zero_sub, List.take_zero]; exact World.ownsRow_nil _ _ _ _, Below.refl _ _⟩
            case round =>
              obtain ⟨j, hj, rfl, HO, HB⟩ := hrel
              have BX : Hid (Below w7.heap.size w7 wr) := BI.out.trans (HB.out.mono BI.out.size)
              by_cases hp : p > 0
              · have hp' : decide (p > 0) = true := by simpa using hp
                have hp'' : decide (0 < p) = true := by simpa using hp
                by_cases hlt : j < nI
                · have hlt' : (j : Int) < (nI : Int) := by omega
                  obtain ⟨g3, off3, cur3, ty3, fr3, c, rfl, hg0, hc3, hcj⟩ := GSl.at VI.out j hlt
                  have hg3 := (HB.out.block g3 (Array.getElem?_eq_some_iff.1 hg0).1).trans hg0
                  have cb : wr.cell? ⟨g3, off3 + j * 36, none⟩ = some (.int .i64 c.bank) := (cell_of_row _ _ _ _ _ _ hg3).trans ((hc3 0 (by show 0 < 36; omega)).trans (slotV_lo c 0 (by omega)))
                  by_cases hjn : j < nt
                  · have hb3 : c.bank = 3 := seq_part (by rw [← HNT.out]; exact hjn) hcj
                    rw [hb3] at cb
                    have O3 : Hid (RulesOwn wi.heap.size wr u19 (RN.take (j + 1 - nt))) := by
                      have h := HO.out
                      rw [show j - nt = 0 by omega] at h
                      show RulesOwn _ _ _ _
                      rw [show j + 1 - nt = 0 by omega]
                      exact h
                    clear hg3 hg0 hc3 hcj HO hb3
                    go_wp2_with fail
                    go_roundw
                    case rel => exact ⟨j + 1, by omega, by go_num, O3, HB⟩
                    case measure => simp [intOf]; omega
                  · obtain ⟨r4, hr4, hb3, ho4, hcu4, hac4⟩ := seq_rule (by rw [← HNT.out]; omega) hcj
                    rw [← HNT.out] at hr4
                    rw [hb3] at cb
                    have hok4 := OKR.out r4 (List.mem_of_getElem? hr4)
                    have hV := hok4.1.1
                    have hM := hok4.2.1
                    have RT : Hid (RN.take (j + 1 - nt) = RN.take (j - nt) ++ [r4]) := by show _ = _; rw [show j + 1 - nt = (j - nt) + 1 by omega, List.take_add_one, hr4]; rfl
                    have K3 : Hid (wr.heap[g3]? = some (.cells cur3 ty3 fr3)) := hg3
                    have KI : Hid (wi.heap[g3]? = some (.cells cur3 ty3 fr3)) := hg0
                    have H3 : Hid (∀ i, i < 26 → cur3[off3 + j * 36 + 4 + i]? = (cv r4.cube.1 r4.cube.2)[i]?) := fun i hi => by
                      have h := hc3 (4 + i) (by show 4 + i < 36; omega)
                      rw [slotV_cube c i hi, hcu4, pad_id hV, pad_id hM] at h
                      rw [← h]
                      congr 1
                      show off3 + j * 36 + 4 + i = off3 + j * 36 + (4 + i)
                      omega
                    have q3 : ∀ z : Keep1 g3 (.cells cur3 ty3 fr3), z.world.cell? ⟨g3, off3 + j * 36 + 3, none⟩ = some (.int .i64 r4.order) := fun z => (cell_of_row _ _ _ _ _ _ z.k1).trans ((hc3 3 (by show 3 < 36; omega)).trans (by rw [← ho4]; exact slotV_lo c 3 (by omega)))
                    have q30 : ∀ z : Keep1 g3 (.cells cur3 ty3 fr3), z.world.cell? ⟨g3, off3 + j * 36 + 30, none⟩ = some (.int .i64 r4.action) := fun z => (cell_of_row _ _ _ _ _ _ z.k1).trans ((hc3 30 (by show 30 < 36; omega)).trans (by rw [← hac4]; exact slotV_hi c 0))
                    have ne9 : Nonempty (Keep1 g3 (.cells cur3 ty3 fr3)) := ⟨⟨wr, hg3⟩⟩
                    have BP := fun W => build_rule3 r4.cube.1 r4.cube.2 hV hM r4.order r4.action W
                    obtain ⟨L, hL⟩ : ∃ L, L = RN.take (j - nt) := ⟨_, rfl⟩
                    have hlen : L.length ≤ 1000000 := by rw [hL, List.length_take]; omega
                    rw [← hL] at HO RT
                    obtain ⟨o5, cap5, rfl⟩ := HO.out.slice
                    clear hg3 hg0 hc3 hcj hb3 ho4 hcu4 hac4 hr4 hL
                    go_upto_region 26 with fail
                    refine region_cut (fun a a' w' => ∃ v5 y127 y128 y129 y130 y131 y132 y133 y134 y135 y136 y137 y138 y139 y140 y141 y142 y143 y144 y145, a' = (((((((((((((((((((a.put (some 127) y127).put (some 128) y128).put (some 129) y129).put (some 130) y130).put (some 131) y131).put (some 132) y132).put (some 133) y133).put (some 134) y134).put (some 135) y135).put (some 136) y136).put (some 137) y137).put (some 138) y138).put (some 139) y139).put (some 140) y140).put (some 141) y141).put (some 142) y142).put (some 143) y143).put (some 144) y144).put (some 145) y145).put (some 19) v5 ∧ RulesOwn wi.heap.size w' v5 (RN.take (j + 1 - nt)) ∧ Below wi.heap.size wi w') ?_ ?_
                    · have bd : Below wr.heap.size wr (World.drew wr) := (Below.refl _ _).drew
                      have kd : (World.drew wr).heap[g3]? = some (.cells cur3 ty3 fr3) := K3.out
                      refine region_beginS (In1 g3 (.cells cur3 ty3 fr3)) 20 rfl (by kernel_rfl) ?_
                      refine region_reads 0 16 4 rfl (by kernel_rfl) (by kernel_rfl) (by kernel_rfl) (by intro d v c a w h; exact absurd h.1 (by simp)) (In1.of kd) ?_
                      simp only [List.drop_zero, List.take_succ_cons, List.take_zero]
                      go_big_quiet_step (rfl)
                      go_big_quiet_step (rfl)
                      go_big_quiet_step (rfl)
                      go_big_quiet_step (rfl)
                      go_big_quiet_step (rfl)
                      go_big_quiet_step (rfl)
                      go_big_quiet_step (rfl)
                      go_big_quiet_step (rfl)
                      go_big_quiet_step (rfl)
                      go_big_quiet_step (rfl)
                      refine qlA CubGOk rfl _ rfl g3 (off3 + j * 36 + 4) rfl _ _ _ (cv r4.cube.1 r4.cube.2) (cv_size _ _ hV hM) (by rintro w' ⟨z, rfl⟩; exact z.k1) H3.out ?_
                      simp only [Act.put, List.setIfInBounds_toArray, List.set_cons_succ, List.set_cons_zero]
                      go_big_quiet_step (rfl)
                      go_big_quiet_step (rfl)
                      go_big_quiet_step (rfl)
                      go_big_quiet_step (rfl)
                      go_big_quiet_step (rfl)
                      refine wpQuiet_nil ?_
                      refine wpAnyH_all (rs := [16]) (by kernel_rfl) (by decide) ?_
                      intro i hi
                      obtain rfl := List.mem_singleton.1 hi
                      refine wpOp_val (w' := World.drew wr) rfl rfl (.agg (ruleV r4)) (run_build12 rfl _ _ #[(0, .int .i64 r4.order), (1, .agg (cv r4.cube.1 r4.cube.2)), (2, .int .i64 r4.action)] (by simp only [List.map_toArray, List.map_cons, List.map_nil]; rfl) _ (BP _)) (some 143) rfl ?_
                      refine ⟨In1.of kd, ?_⟩
                      simp only [Act.put, List.setIfInBounds_toArray, List.set_cons_succ, List.set_cons_zero]
                      refine wpAnyH_all (rs := [17]) (by kernel_rfl) (by decide) ?_
                      intro i hi
                      obtain rfl := List.mem_singleton.1 hi
                      refine wpOp_of_list rfl ?_
                      refine wl_buildE (E := RuleE) RuleOk rfl _ rfl (ruleV r4) (ruleV_size hok4) rfl ?_
                      obtain ⟨w8, hw8⟩ : ∃ w8, w8 = (World.drew wr).alloc (.cells (ruleV r4) RuleE.elem) := ⟨_, rfl⟩
                      have b8 : Below wr.heap.size wr w8 := by rw [hw8]; exact bd.alloc bd.size _
                      have O8 : RulesOwn wi.heap.size w8 (.slice o5 L.length cap5) L := HO.out.below b8
                      have G8 : w8.heap[(World.drew wr).heap.size]? = some (.cells (ruleV r4) RuleE.elem (0, 0)) := by rw [hw8]; exact heap_new _ _ _ rfl
                      have B8 : Below wi.heap.size wi w8 := HB.out.trans (b8.mono HB.out.size)
                      have kd2 : w8.heap[g3]? = some (.cells cur3 ty3 fr3) := (b8.block _ (Array.getElem?_eq_some_iff.1 K3.out).1).trans K3.out
                      rw [← hw8]
                      clear hw8
                      show _ ∧ _
                      refine ⟨In1.of kd2, ?_⟩
                      simp only [Act.put, List.setIfInBounds_toArray]
                      refine wpAnyH_all (rs := [18]) (by kernel_rfl) (by decide) ?_
                      intro i hi
                      obtain rfl := List.mem_singleton.1 hi
                      refine wpOp_of_list rfl ?_
                      refine wl_appendE (E := RuleE) RuleOk ruleV rfl _ _ rfl wi.heap.size (.slice o5 L.length cap5) L r4 (rule_fits hok4) rfl O8 (World.drew wr).heap.size 1 rfl G8 hlen B8.size ?_
                      intro v3 w3 ho3' hg3' hb3'
                      have B9 : Below wi.heap.size wi w3 := B8.grown hg3' B8.size fun j hj => (World.ownsRow.lt O8 j hj).1
                      have kd3 : w3.heap[g3]? = some (.cells cur3 ty3 fr3) := (B9.block _ (Array.getElem?_eq_some_iff.1 KI.out).1).trans KI.out
                      show _ ∧ _
                      refine ⟨In1.of kd3, ?_⟩
                      simp only [Act.put]
                      refine wpAnyH_all (rs := [19]) (by kernel_rfl) (by decide) ?_
                      intro i hi
                      obtain rfl := List.mem_singleton.1 hi
                      refine wpOp_assign rfl rfl _ rfl _ rfl (some 19) rfl ?_
                      refine ⟨In1.of kd3, ?_⟩
                      refine wpAnyH_done (by kernel_rfl) ?_ _
                      refine ⟨rfl, v3, _, _, _, _, _, _, _, _, _, _, _, _, _, _, _, _, _, _, _, rfl, ?_, B9⟩
                      rw [RT.out]
                      exact ho3'
                    rintro a' w9 ⟨v5, y127, y128, y129, y130, y131, y132, y133, y134, y135, y136, y137, y138, y139, y140, y141, y142, y143, y144, y145, rfl, ho9, hb9⟩
                    have O9 : Hid (RulesOwn wi.heap.size w9 v5 (RN.take (j + 1 - nt))) := ho9
                    have B9 : Hid (Below wi.heap.size wi w9) := hb9
                    clear ho9 hb9 HO HB RT K3 KI H3 q3 q30 ne9 BP hlen cb
                    simp only [Act.put, List.setIfInBounds_toArray, List.set_cons_succ, List.set_cons_zero]
                    go_wp2_with fail
                    go_roundw
                    case rel => exact ⟨j + 1, by omega, by go_num, O9, B9⟩
                    case measure => simp [intOf]; omega
                · have hlt' : ¬ (j : Int) < (nI : Int) := by omega
                  have hlt'' : decide ((j : Int) < (nI : Int)) = false := by simpa using hlt'
                  obtain ⟨L, hL⟩ : ∃ L, L = RN.take (j - nt) := ⟨_, rfl⟩
                  have hLR : L = rulesN D p := by
                    rw [hL, ← HRE.out]
                    exact List.take_of_length_le (by have := HNI.out; omega)
                  obtain ⟨z1, z2, z3⟩ := SN.out p HN.out
                  rw [← hLR] at z1 z2 z3
                  have RO : Hid (RulesAt wr u19 L) := RulesAt.own (B := wi.heap.size) (fun r hr => OKR.out r (by rw [HRE.out, ← hLR]; exact hr)) (by rw [hL]; exact HO.out)
                  have OKL : Hid (∀ r ∈ L, okR8 r) := fun r hr => OKR.out r (by rw [HRE.out, ← hLR]; exact hr)
                  have LZ0 := fun W' hb => LA.out L u19 wr OKL.out RO.out W' hb
                  rw [z1] at LZ0
                  obtain ⟨rz, hrz⟩ : ∃ rz, rz = (lookT L H).1 := ⟨_, rfl⟩
                  have hokz : okR8 rz := by rw [hrz]; exact look_ok12 OKL.out H
                  rw [← hrz] at LZ0 z2 z3
                  have LZ : Hid (∀ W', Below wr.heap.size wr W' → Calls Try.prog 18 #[u19, .agg (hv H)] W' fun e w' => e = .returned (.tuple #[.agg (ruleV rz), .bool ok]) ∧ Below W'.heap.size W' w') := LZ0
                  have Z2 : Hid (rz.order = r.order) := z2
                  have Z3 : Hid (rz.action = r.action) := z3
                  have HZ : Hid (okR8 rz) := hokz
                  have RX : Hid (wr.heap[gh]? = some (.cells (hv H) 38 (0, 0))) := (BX.out.block _ (Array.getElem?_eq_some_iff.1 R7.out).1).trans R7.out
                  clear hL hLR z1 z2 z3 LZ0 hrz hokz HO HB RO OKL
                  go_wp2_with (refine wl_load26 rfl _ rfl gh rfl H RX.out hHl ?_)
                  refine (LZ.out _ (Below.refl _ _)).mono ?_
                  rintro e w11 ⟨rfl, hb11⟩
                  obtain ⟨w12, hw12⟩ : ∃ w12, w12 = w11.alloc (.cells (ruleV rz) 44) := ⟨_, rfl⟩
                  have b12 : Below wr.heap.size wr w12 := by rw [hw12]; exact hb11.alloc hb11.size _
                  have B12 : Hid (Below w7.heap.size w7 w12) := BX.out.trans (b12.mono BX.out.size)
                  have X12 : w12.heap[w11.heap.size]? = some (.cells (ruleV rz) 44 (0, 0)) := by rw [hw12]; exact heap_new _ _ _ rfl
                  have X7' := (B12.out.block _ (Array.getElem?_eq_some_iff.1 X7.out).1).trans X7.out
                  have k0 : w12.cell? ⟨q5, 0, none⟩ = some (.int .i64 r.order) := (cell_of_row _ _ _ _ _ _ X7').trans (rule_at HR.out).1
                  have k27 : w12.cell? ⟨q5, 27, none⟩ = some (.int .i64 r.action) := (cell_of_row _ _ _ _ _ _ X7').trans (rule_at HR.out).2.2
                  have m0 : w12.cell? ⟨w11.heap.size, 0, none⟩ = some (.int .i64 r.order) := (cell_of_row _ _ _ _ _ _ X12).trans (by rw [← Z2.out]; exact (rule_at HZ.out).1)
                  have m27 : w12.cell? ⟨w11.heap.size, 27, none⟩ = some (.int .i64 r.action) := (cell_of_row _ _ _ _ _ _ X12).trans (by rw [← Z3.out]; exact (rule_at HZ.out).2.2)
                  clear X12 X7' b12 hb11
                  go_wp2_with (refine wl_storeE (E := RuleE) RuleOk rfl _ _ rfl w11.heap.size (ruleV rz) (rule_fits HZ.out) rfl rfl _ (heap_new _ _ _ rfl) rfl _ (setRow_new _ _ _ _ _ rfl) ?_; refine of_stopT ?_)
                  unfold StopT
                  rw [← hw12]
                  clear hw12
                  generalize w11.heap.size = q11 at m0 m27
                  go_wp2_with fail
                  go_roundw
                  case rel => exact ⟨0 + 1, by omega, by go_num, B12⟩
                  case measure => simp [intOf]
              · have hp' : decide (p > 0) = false := by simpa using hp
                have hp'' : decide (0 < p) = false := by simpa using hp
                obtain ⟨L, hL⟩ : ∃ L, L = RN.take (j - nt) := ⟨_, rfl⟩
                have OKL : ∀ r ∈ L, okR8 r := fun r hr => OKR.out r (by rw [hL] at hr; exact List.mem_of_mem_take hr)
                have RO : RulesAt wr u19 L := RulesAt.own (B := wi.heap.size) OKL (by rw [hL]; exact HO.out)
                have LZ0 := fun W' hb => LA.out L u19 wr OKL RO W' hb
                obtain ⟨rz, hrz⟩ : ∃ rz, rz = (lookT L H).1 := ⟨_, rfl⟩
                obtain ⟨bz, hbz⟩ : ∃ bz, bz = (lookT L H).2 := ⟨_, rfl⟩
                have hokz : okR8 rz := by rw [hrz]; exact look_ok12 OKL H
                rw [← hrz, ← hbz] at LZ0
                have LZ : Hid (∀ W', Below wr.heap.size wr W' → Calls Try.prog 18 #[u19, .agg (hv H)] W' fun e w' => e = .returned (.tuple #[.agg (ruleV rz), .bool bz]) ∧ Below W'.heap.size W' w') := LZ0
                have HZ : Hid (okR8 rz) := hokz
                have RX : Hid (wr.heap[gh]? = some (.cells (hv H) 38 (0, 0))) := (BX.out.block _ (Array.getElem?_eq_some_iff.1 R7.out).1).trans R7.out
                clear hL LZ0 hrz hbz hokz HO HB RO OKL
                go_wp2_with (refine wl_load26 rfl _ rfl gh rfl H RX.out hHl ?_)
                refine (LZ.out _ (Below.refl _ _)).mono ?_
                rintro e w11 ⟨rfl, hb11⟩
                obtain ⟨w12, hw12⟩ : ∃ w12, w12 = w11.alloc (.cells (ruleV rz) 44) := ⟨_, rfl⟩
                have b12 : Below wr.heap.size wr w12 := by rw [hw12]; exact hb11.alloc hb11.size _
                have B12 : Hid (Below w7.heap.size w7 w12) := BX.out.trans (b12.mono BX.out.size)
                clear b12 hb11
                go_wp2_with (refine wl_storeE (E := RuleE) RuleOk rfl _ _ rfl w11.heap.size (ruleV rz) (rule_fits HZ.out) rfl rfl _ (heap_new _ _ _ rfl) rfl _ (setRow_new _ _ _ _ _ rfl) ?_; refine of_stopT ?_)
                unfold StopT
                rw [← hw12]
                clear hw12
                generalize w11.heap.size = q11
                go_wp2_with fail
                go_roundw
                case rel => exact ⟨0 + 1, by omega, by go_num, B12⟩
                case measure => simp [intOf]
          · obtain ⟨p, hp⟩ : ∃ p, p = xf.two := ⟨_, rfl⟩
            have HN : Hid (hasN xf p = true) := by show _ = _; rw [hp]; exact h2N.out
            rw [← hp] at e27
            clear hp h1N h2N
            go_wp2_with fail
            refine (IT.out _ _ AR.out).mono ?_
            rintro e wi ⟨⟨v20, rfl, hv20⟩, hbi⟩
            have BI : Hid (Below w7.heap.size w7 wi) := HB.out.trans (hbi.mono HB.out.size)
            obtain ⟨oI, cI, rfl⟩ := hv20.slice
            obtain ⟨RN, hRN⟩ : ∃ RN, RN = rulesN D p := ⟨_, rfl⟩
            have HRE : Hid (RN = rulesN D p) := hRN
            obtain ⟨nI, hnI⟩ : ∃ nI, nI = (itemsT D p).length := ⟨_, rfl⟩
            have VI : Hid (GSl SlotE slotV wi (.slice oI nI cI) (seqS D RN)) := by
              show GSl _ _ _ _ _
              rw [hnI, hRN]
              exact hv20.at_
            obtain ⟨_, _, e2, hcm1, hcm2⟩ := GSl.slice VI.out
            simp only [Value.slice.injEq] at e2
            obtain ⟨rfl, -, rfl⟩ := e2
            unfold maxLen at hcm2
            have HNI : Hid (nI = nt + RN.length) := by show _ = _; rw [hnI, hRN, HNT.out]; exact seqS_len _ _
            have hrl : RN.length ≤ 500000 := by rw [hRN]; exact HRN.out p
            have OKR : Hid (∀ r ∈ RN, okR8 r) := by show ∀ r ∈ RN, okR8 r; rw [hRN]; exact rulesN_ok OKD.out p
            rw [show (seqS D RN).length = nI by rw [seqS_len, HNI.out, HNT.out]] at hcm1
            rw [← hnI]
            clear hv20 hbi hRN hnI HB AR e26 e27
            go_wp2_with fail
            go_loopw [19, 21] (fun v i wr => ∃ j : Nat, j ≤ nI ∧ i = .int .i64 (j : Int) ∧ Hid (RulesOwn wi.heap.size wr v (RN.take (j - nt))) ∧ Hid (Below wi.heap.size wi wr)) (fun _ i _ => nI - (intOf i).toNat)
            case atStart => exact ⟨0, Nat.zero_le _, rfl, by show RulesOwn _ _ _ _; rw [Nat.zero_sub, List.take_zero]; exact World.ownsRow_nil _ _ _ _, Below.refl _ _⟩
            case round =>
              obtain ⟨j, hj, rfl, HO, HB⟩ := hrel
              have BX : Hid (Below w7.heap.size w7 wr) := BI.out.trans (HB.out.mono BI.out.size)
              by_cases hp : p > 0
              · have hp' : decide (p > 0) = true := by simpa using hp
                have hp'' : decide (0 < p) = true := by simpa using hp
                by_cases hlt : j < nI
                · have hlt' : (j : Int) < (nI : Int) := by omega
                  obtain ⟨g3, off3, cur3, ty3, fr3, c, rfl, hg0, hc3, hcj⟩ := GSl.at VI.out j hlt
                  have hg3 := (HB.out.block g3 (Array.getElem?_eq_some_iff.1 hg0).1).trans hg0
                  have cb : wr.cell? ⟨g3, off3 + j * 36, none⟩ = some (.int .i64 c.bank) := (cell_of_row _ _ _ _ _ _ hg3).trans ((hc3 0 (by show 0 < 36; omega)).trans (slotV_lo c 0 (by omega)))
                  by_cases hjn : j < nt
                  · have hb3 : c.bank = 3 := seq_part (by rw [← HNT.out]; exact hjn) hcj
                    rw [hb3] at cb
                    have O3 : Hid (RulesOwn wi.heap.size wr u19 (RN.take (j + 1 - nt))) := by
                      have h := HO.out
                      rw [show j - nt = 0 by omega] at h
                      show RulesOwn _ _ _ _
                      rw [show j + 1 - nt = 0 by omega]
                      exact h
                    clear hg3 hg0 hc3 hcj HO hb3
                    go_wp2_with fail
                    go_roundw
                    case rel => exact ⟨j + 1, by omega, by go_num, O3, HB⟩
                    case measure => simp [intOf]; omega
                  · obtain ⟨r4, hr4, hb3, ho4, hcu4, hac4⟩ := seq_rule (by rw [← HNT.out]; omega) hcj
                    rw [← HNT.out] at hr4
                    rw [hb3] at cb
                    have hok4 := OKR.out r4 (List.mem_of_getElem? hr4)
                    have hV := hok4.1.1
                    have hM := hok4.2.1
                    have RT : Hid (RN.take (j + 1 - nt) = RN.take (j - nt) ++ [r4]) := by show _ = _; rw [show j + 1 - nt = (j - nt) + 1 by omega, List.take_add_one, hr4]; rfl
                    have K3 : Hid (wr.heap[g3]? = some (.cells cur3 ty3 fr3)) := hg3
                    have KI : Hid (wi.heap[g3]? = some (.cells cur3 ty3 fr3)) := hg0
                    have H3 : Hid (∀ i, i < 26 → cur3[off3 + j * 36 + 4 + i]? = (cv r4.cube.1 r4.cube.2)[i]?) := fun i hi => by
                      have h := hc3 (4 + i) (by show 4 + i < 36; omega)
                      rw [slotV_cube c i hi, hcu4, pad_id hV, pad_id hM] at h
                      rw [← h]
                      congr 1
                      show off3 + j * 36 + 4 + i = off3 + j * 36 + (4 + i)
                      omega
                    have q3 : ∀ z : Keep1 g3 (.cells cur3 ty3 fr3), z.world.cell? ⟨g3, off3 + j * 36 + 3, none⟩ = some (.int .i64 r4.order) := fun z => (cell_of_row _ _ _ _ _ _ z.k1).trans ((hc3 3 (by show 3 < 36; omega)).trans (by rw [← ho4]; exact slotV_lo c 3 (by omega)))
                    have q30 : ∀ z : Keep1 g3 (.cells cur3 ty3 fr3), z.world.cell? ⟨g3, off3 + j * 36 + 30, none⟩ = some (.int .i64 r4.action) := fun z => (cell_of_row _ _ _ _ _ _ z.k1).trans ((hc3 30 (by show 30 < 36; omega)).trans (by rw [← hac4]; exact slotV_hi c 0))
                    have ne9 : Nonempty (Keep1 g3 (.cells cur3 ty3 fr3)) := ⟨⟨wr, hg3⟩⟩
                    have BP := fun W => build_rule3 r4.cube.1 r4.cube.2 hV hM r4.order r4.action W
                    obtain ⟨L, hL⟩ : ∃ L, L = RN.take (j - nt) := ⟨_, rfl⟩
                    have hlen : L.length ≤ 1000000 := by rw [hL, List.length_take]; omega
                    rw [← hL] at HO RT
                    obtain ⟨o5, cap5, rfl⟩ := HO.out.slice
                    clear hg3 hg0 hc3 hcj hb3 ho4 hcu4 hac4 hr4 hL
                    go_upto_region 26 with fail
                    refine region_cut (fun a a' w' => ∃ v5 y127 y128 y129 y130 y131 y132 y133 y134 y135 y136 y137 y138 y139 y140 y141 y142 y143 y144 y145, a' = (((((((((((((((((((a.put (some 127) y127).put (some 128) y128).put (some 129) y129).put (some 130) y130).put (some 131) y131).put (some 132) y132).put (some 133) y133).put (some 134) y134).put (some 135) y135).put (some 136) y136).put (some 137) y137).put (some 138) y138).put (some 139) y139).put (some 140) y140).put (some 141) y141).put (some 142) y142).put (some 143) y143).put (some 144) y144).put (some 145) y145).put (some 19) v5 ∧ RulesOwn wi.heap.size w' v5 (RN.take (j + 1 - nt)) ∧ Below wi.heap.size wi w') ?_ ?_
                    · have bd : Below wr.heap.size wr (World.drew wr) := (Below.refl _ _).drew
                      have kd : (World.drew wr).heap[g3]? = some (.cells cur3 ty3 fr3) := K3.out
                      refine region_beginS (In1 g3 (.cells cur3 ty3 fr3)) 20 rfl (by kernel_rfl) ?_
                      refine region_reads 0 16 4 rfl (by kernel_rfl) (by kernel_rfl) (by kernel_rfl) (by intro d v c a w h; exact absurd h.1 (by simp)) (In1.of kd) ?_
                      simp only [List.drop_zero, List.take_succ_cons, List.take_zero]
                      go_big_quiet_step (rfl)
                      go_big_quiet_step (rfl)
                      go_big_quiet_step (rfl)
                      go_big_quiet_step (rfl)
                      go_big_quiet_step (rfl)
                      go_big_quiet_step (rfl)
                      go_big_quiet_step (rfl)
                      go_big_quiet_step (rfl)
                      go_big_quiet_step (rfl)
                      go_big_quiet_step (rfl)
                      refine qlA CubGOk rfl _ rfl g3 (off3 + j * 36 + 4) rfl _ _ _ (cv r4.cube.1 r4.cube.2) (cv_size _ _ hV hM) (by rintro w' ⟨z, rfl⟩; exact z.k1) H3.out ?_
                      simp only [Act.put, List.setIfInBounds_toArray, List.set_cons_succ, List.set_cons_zero]
                      go_big_quiet_step (rfl)
                      go_big_quiet_step (rfl)
                      go_big_quiet_step (rfl)
                      go_big_quiet_step (rfl)
                      go_big_quiet_step (rfl)
                      refine wpQuiet_nil ?_
                      refine wpAnyH_all (rs := [16]) (by kernel_rfl) (by decide) ?_
                      intro i hi
                      obtain rfl := List.mem_singleton.1 hi
                      refine wpOp_val (w' := World.drew wr) rfl rfl (.agg (ruleV r4)) (run_build12 rfl _ _ #[(0, .int .i64 r4.order), (1, .agg (cv r4.cube.1 r4.cube.2)), (2, .int .i64 r4.action)] (by simp only [List.map_toArray, List.map_cons, List.map_nil]; rfl) _ (BP _)) (some 143) rfl ?_
                      refine ⟨In1.of kd, ?_⟩
                      simp only [Act.put, List.setIfInBounds_toArray, List.set_cons_succ, List.set_cons_zero]
                      refine wpAnyH_all (rs := [17]) (by kernel_rfl) (by decide) ?_
                      intro i hi
                      obtain rfl := List.mem_singleton.1 hi
                      refine wpOp_of_list rfl ?_
                      refine wl_buildE (E := RuleE) RuleOk rfl _ rfl (ruleV r4) (ruleV_size hok4) rfl ?_
                      obtain ⟨w8, hw8⟩ : ∃ w8, w8 = (World.drew wr).alloc (.cells (ruleV r4) RuleE.elem) := ⟨_, rfl⟩
                      have b8 : Below wr.heap.size wr w8 := by rw [hw8]; exact bd.alloc bd.size _
                      have O8 : RulesOwn wi.heap.size w8 (.slice o5 L.length cap5) L := HO.out.below b8
                      have G8 : w8.heap[(World.drew wr).heap.size]? = some (.cells (ruleV r4) RuleE.elem (0, 0)) := by rw [hw8]; exact heap_new _ _ _ rfl
                      have B8 : Below wi.heap.size wi w8 := HB.out.trans (b8.mono HB.out.size)
                      have kd2 : w8.heap[g3]? = some (.cells cur3 ty3 fr3) := (b8.block _ (Array.getElem?_eq_some_iff.1 K3.out).1).trans K3.out
                      rw [← hw8]
                      clear hw8
                      show _ ∧ _
                      refine ⟨In1.of kd2, ?_⟩
                      simp only [Act.put, List.setIfInBounds_toArray]
                      refine wpAnyH_all (rs := [18]) (by kernel_rfl) (by decide) ?_
                      intro i hi
                      obtain rfl := List.mem_singleton.1 hi
                      refine wpOp_of_list rfl ?_
                      refine wl_appendE (E := RuleE) RuleOk ruleV rfl _ _ rfl wi.heap.size (.slice o5 L.length cap5) L r4 (rule_fits hok4) rfl O8 (World.drew wr).heap.size 1 rfl G8 hlen B8.size ?_
                      intro v3 w3 ho3' hg3' hb3'
                      have B9 : Below wi.heap.size wi w3 := B8.grown hg3' B8.size fun j hj => (World.ownsRow.lt O8 j hj).1
                      have kd3 : w3.heap[g3]? = some (.cells cur3 ty3 fr3) := (B9.block _ (Array.getElem?_eq_some_iff.1 KI.out).1).trans KI.out
                      show _ ∧ _
                      refine ⟨In1.of kd3, ?_⟩
                      simp only [Act.put]
                      refine wpAnyH_all (rs := [19]) (by kernel_rfl) (by decide) ?_
                      intro i hi
                      obtain rfl := List.mem_singleton.1 hi
                      refine wpOp_assign rfl rfl _ rfl _ rfl (some 19) rfl ?_
                      refine ⟨In1.of kd3, ?_⟩
                      refine wpAnyH_done (by kernel_rfl) ?_ _
                      refine ⟨rfl, v3, _, _, _, _, _, _, _, _, _, _, _, _, _, _, _, _, _, _, _, rfl, ?_, B9⟩
                      rw [RT.out]
                      exact ho3'
                    rintro a' w9 ⟨v5, y127, y128, y129, y130, y131, y132, y133, y134, y135, y136, y137, y138, y139, y140, y141, y142, y143, y144, y145, rfl, ho9, hb9⟩
                    have O9 : Hid (RulesOwn wi.heap.size w9 v5 (RN.take (j + 1 - nt))) := ho9
                    have B9 : Hid (Below wi.heap.size wi w9) := hb9
                    clear ho9 hb9 HO HB RT K3 KI H3 q3 q30 ne9 BP hlen cb
                    simp only [Act.put, List.setIfInBounds_toArray, List.set_cons_succ, List.set_cons_zero]
                    go_wp2_with fail
                    go_roundw
                    case rel => exact ⟨j + 1, by omega, by go_num, O9, B9⟩
                    case measure => simp [intOf]; omega
                · have hlt' : ¬ (j : Int) < (nI : Int) := by omega
                  have hlt'' : decide ((j : Int) < (nI : Int)) = false := by simpa using hlt'
                  obtain ⟨L, hL⟩ : ∃ L, L = RN.take (j - nt) := ⟨_, rfl⟩
                  have hLR : L = rulesN D p := by
                    rw [hL, ← HRE.out]
                    exact List.take_of_length_le (by have := HNI.out; omega)
                  obtain ⟨z1, z2, z3⟩ := SN.out p HN.out
                  rw [← hLR] at z1 z2 z3
                  have RO : Hid (RulesAt wr u19 L) := RulesAt.own (B := wi.heap.size) (fun r hr => OKR.out r (by rw [HRE.out, ← hLR]; exact hr)) (by rw [hL]; exact HO.out)
                  have OKL : Hid (∀ r ∈ L, okR8 r) := fun r hr => OKR.out r (by rw [HRE.out, ← hLR]; exact hr)
                  have LZ0 := fun W' hb => LA.out L u19 wr OKL.out RO.out W' hb
                  rw [z1] at LZ0
                  obtain ⟨rz, hrz⟩ : ∃ rz, rz = (lookT L H).1 := ⟨_, rfl⟩
                  have hokz : okR8 rz := by rw [hrz]; exact look_ok12 OKL.out H
                  rw [← hrz] at LZ0 z2 z3
                  have LZ : Hid (∀ W', Below wr.heap.size wr W' → Calls Try.prog 18 #[u19, .agg (hv H)] W' fun e w' => e = .returned (.tuple #[.agg (ruleV rz), .bool ok]) ∧ Below W'.heap.size W' w') := LZ0
                  have Z2 : Hid (rz.order = r.order) := z2
                  have Z3 : Hid (rz.action = r.action) := z3
                  have HZ : Hid (okR8 rz) := hokz
                  have RX : Hid (wr.heap[gh]? = some (.cells (hv H) 38 (0, 0))) := (BX.out.block _ (Array.getElem?_eq_some_iff.1 R7.out).1).trans R7.out
                  clear hL hLR z1 z2 z3 LZ0 hrz hokz HO HB RO OKL
                  go_wp2_with (refine wl_load26 rfl _ rfl gh rfl H RX.out hHl ?_)
                  refine (LZ.out _ (Below.refl _ _)).mono ?_
                  rintro e w11 ⟨rfl, hb11⟩
                  obtain ⟨w12, hw12⟩ : ∃ w12, w12 = w11.alloc (.cells (ruleV rz) 44) := ⟨_, rfl⟩
                  have b12 : Below wr.heap.size wr w12 := by rw [hw12]; exact hb11.alloc hb11.size _
                  have B12 : Hid (Below w7.heap.size w7 w12) := BX.out.trans (b12.mono BX.out.size)
                  have X12 : w12.heap[w11.heap.size]? = some (.cells (ruleV rz) 44 (0, 0)) := by rw [hw12]; exact heap_new _ _ _ rfl
                  have X7' := (B12.out.block _ (Array.getElem?_eq_some_iff.1 X7.out).1).trans X7.out
                  have k0 : w12.cell? ⟨q5, 0, none⟩ = some (.int .i64 r.order) := (cell_of_row _ _ _ _ _ _ X7').trans (rule_at HR.out).1
                  have k27 : w12.cell? ⟨q5, 27, none⟩ = some (.int .i64 r.action) := (cell_of_row _ _ _ _ _ _ X7').trans (rule_at HR.out).2.2
                  have m0 : w12.cell? ⟨w11.heap.size, 0, none⟩ = some (.int .i64 r.order) := (cell_of_row _ _ _ _ _ _ X12).trans (by rw [← Z2.out]; exact (rule_at HZ.out).1)
                  have m27 : w12.cell? ⟨w11.heap.size, 27, none⟩ = some (.int .i64 r.action) := (cell_of_row _ _ _ _ _ _ X12).trans (by rw [← Z3.out]; exact (rule_at HZ.out).2.2)
                  clear X12 X7' b12 hb11
                  go_wp2_with (refine wl_storeE (E := RuleE) RuleOk rfl _ _ rfl w11.heap.size (ruleV rz) (rule_fits HZ.out) rfl rfl _ (heap_new _ _ _ rfl) rfl _ (setRow_new _ _ _ _ _ rfl) ?_; refine of_stopT ?_)
                  unfold StopT
                  rw [← hw12]
                  clear hw12
                  generalize w11.heap.size = q11 at m0 m27
                  go_wp2_with fail
                  go_roundw
                  case rel => exact ⟨1 + 1, by omega, by go_num, B12⟩
                  case measure => simp [intOf]
              · have hp' : decide (p > 0) = false := by simpa using hp
                have hp'' : decide (0 < p) = false := by simpa using hp
                obtain ⟨L, hL⟩ : ∃ L, L = RN.take (j - nt) := ⟨_, rfl⟩
                have OKL : ∀ r ∈ L, okR8 r := fun r hr => OKR.out r (by rw [hL] at hr; exact List.mem_of_mem_take hr)
                have RO : RulesAt wr u19 L := RulesAt.own (B := wi.heap.size) OKL (by rw [hL]; exact HO.out)
                have LZ0 := fun W' hb => LA.out L u19 wr OKL RO W' hb
                obtain ⟨rz, hrz⟩ : ∃ rz, rz = (lookT L H).1 := ⟨_, rfl⟩
                obtain ⟨bz, hbz⟩ : ∃ bz, bz = (lookT L H).2 := ⟨_, rfl⟩
                have hokz : okR8 rz := by rw [hrz]; exact look_ok12 OKL H
                rw [← hrz, ← hbz] at LZ0
                have LZ : Hid (∀ W', Below wr.heap.size wr W' → Calls Try.prog 18 #[u19, .agg (hv H)] W' fun e w' => e = .returned (.tuple #[.agg (ruleV rz), .bool bz]) ∧ Below W'.heap.size W' w') := LZ0
                have HZ : Hid (okR8 rz) := hokz
                have RX : Hid (wr.heap[gh]? = some (.cells (hv H) 38 (0, 0))) := (BX.out.block _ (Array.getElem?_eq_some_iff.1 R7.out).1).trans R7.out
                clear hL LZ0 hrz hbz hokz HO HB RO OKL
                go_wp2_with (refine wl_load26 rfl _ rfl gh rfl H RX.out hHl ?_)
                refine (LZ.out _ (Below.refl _ _)).mono ?_
                rintro e w11 ⟨rfl, hb11⟩
                obtain ⟨w12, hw12⟩ : ∃ w12, w12 = w11.alloc (.cells (ruleV rz) 44) := ⟨_, rfl⟩
                have b12 : Below wr.heap.size wr w12 := by rw [hw12]; exact hb11.alloc hb11.size _
                have B12 : Hid (Below w7.heap.size w7 w12) := BX.out.trans (b12.mono BX.out.size)
                clear b12 hb11
                go_wp2_with (refine wl_storeE (E := RuleE) RuleOk rfl _ _ rfl w11.heap.size (ruleV rz) (rule_fits HZ.out) rfl rfl _ (heap_new _ _ _ rfl) rfl _ (setRow_new _ _ _ _ _ rfl) ?_; refine of_stopT ?_)
                unfold StopT
                rw [← hw12]
                clear hw12
                generalize w11.heap.size = q11
                go_wp2_with fail
                go_roundw
                case rel => exact ⟨1 + 1, by omega, by go_num, B12⟩
                case measure => simp [intOf]
        · have hj2' : ¬ (j : Int) < 2 := by omega
          go_wp2_with fail
          go_ret
          exact ⟨rfl, BW.out⟩
end Go.Proofs.Ytpbinkmeldkehaa
