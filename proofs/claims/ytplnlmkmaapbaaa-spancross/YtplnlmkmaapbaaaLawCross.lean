import Derived.Test.YtplnlmkmaapbaaaRefCross
import Derived.Test.YtplnlmkmaapbaaaSameSl
import Derived.Test.YtplnlmkmaapbaaaMeetHas
import Derived.Test.YtplnlmkmaapbaaaCovHas
import Derived.Test.YtplnlmkmaapbaaaSpAwake
namespace Go.Proofs.Ytplnlmkmaapbaaa
open Go Go.RowKit

def crossP (A B : List (List Int × List Int)) (m : Int) : List (List Int × List Int) := if (crossL A B).length ≤ bnd4 m then crossL A B else []
def crossE (A B : List (List Int × List Int)) (m : Int) : Int := if (crossL A B).length ≤ bnd4 m then 0 else 4
theorem byts_crossL (A B : List (List Int × List Int)) : Byts (crossL A B) := fun c hc => by
  unfold crossL at hc
  rw [List.mem_flatMap] at hc
  obtain ⟨d, _, hd⟩ := hc
  unfold crossR at hd
  rw [List.mem_map] at hd
  obtain ⟨x, _, rfl⟩ := hd
  exact ⟨meetV_byt _ _ _ _, meetM_byt _ _⟩
/-- What two lists crossed have. -/
theorem hasL_cross (A B : List (List Int × List Int)) (H : List Int) : hasL (crossL A B) H = (hasL A H && hasL B H) := by
  unfold hasL
  rw [Bool.eq_iff_iff, Bool.and_eq_true, List.any_eq_true, List.any_eq_true, List.any_eq_true]
  constructor
  · rintro ⟨c, hc, h⟩
    unfold crossL at hc
    rw [List.mem_flatMap] at hc
    obtain ⟨a, ha, hd⟩ := hc
    unfold crossR at hd
    rw [List.mem_map] at hd
    obtain ⟨b, hb, rfl⟩ := hd
    rw [List.mem_filter] at hb
    rw [has_meet _ _ _ _ _ hb.2, Bool.and_eq_true] at h
    exact ⟨⟨a, ha, h.1⟩, ⟨b, hb.1, h.2⟩⟩
  · rintro ⟨⟨a, ha, h1⟩, ⟨b, hb, h2⟩⟩
    have hm := has_meets h1 h2
    refine ⟨(meetV a.1 a.2 b.1 b.2, meetM a.2 b.2), ?_, ?_⟩
    · unfold crossL
      rw [List.mem_flatMap]
      refine ⟨a, ha, ?_⟩
      unfold crossR
      rw [List.mem_map]
      exact ⟨b, List.mem_filter.2 ⟨hb, hm⟩, rfl⟩
    · rw [has_meet _ _ _ _ _ hm, h1, h2]; rfl

theorem cross_uni (A B : List (List Int × List Int)) (hA : A.length ≤ 1000) (hB : B.length ≤ 1000) (m : Int) (va vb : Value) (w : World) (hsa : Sl w va A) (hsb : Sl w vb B) :
    Calls Try.prog 11 #[va, vb, .int .i64 m] w fun e w' => ∃ u, e = .returned (.tuple #[u, .int .i64 (crossE A B m)]) ∧ Sl w' u (crossP A B m) ∧ Below w.heap.size w w' := by
  unfold crossP crossE
  refine (cross_any A B hA hB m va vb w hsa hsb).mono ?_
  rintro e w' ⟨⟨u, rfl, h1, h2⟩ | ⟨rfl, h1⟩, hb⟩
  · rw [if_pos h1, if_pos h1]; exact ⟨u, rfl, sl_of h2 (byts_crossL A B), hb⟩
  · rw [if_neg (by omega), if_neg (by omega)]; exact ⟨_, rfl, sl_of (C := []) (World.ownsRow_nil w' w.heap.size _ _) (fun c hc => absurd hc (by simp)), hb⟩
theorem rcross_uni (A B : List (List Int × List Int)) (hA : A.length ≤ 1000) (hB : B.length ≤ 1000) (m : Int) (va vb : Value) (w : World) (hsa : Sl w va A) (hsb : Sl w vb B) :
    Calls Try.prog 12 #[va, vb, .int .i64 m] w fun e w' => ∃ u, e = .returned (.tuple #[u, .int .i64 (crossE A B m)]) ∧ Sl w' u (crossP A B m) ∧ Below w.heap.size w w' := by
  unfold crossP crossE
  refine (rcross_any A B hA hB m va vb w hsa hsb).mono ?_
  rintro e w' ⟨⟨u, rfl, h1, h2⟩ | ⟨rfl, h1⟩, hb⟩
  · rw [if_pos h1, if_pos h1]; exact ⟨u, rfl, sl_of h2 (byts_crossL A B), hb⟩
  · rw [if_neg (by omega), if_neg (by omega)]; exact ⟨_, rfl, sl_of (C := []) (World.ownsRow_nil w' w.heap.size _ _) (fun c hc => absurd hc (by simp)), hb⟩

set_option maxHeartbeats 4000000 in
theorem lawCross_any (C C' : List (List Int × List Int)) (m : Int) (H : List Int) (hH : Byt H) (va vb : Value) (w : World) (hsa : Sl w va C) (hsb : Sl w vb C') :
    Calls Try.prog 5 #[va, vb, .int .i64 m, .agg (hv H)] w fun e w' => e = .returned (.bool true) ∧ Below w.heap.size w w' := by
  obtain ⟨oa, capa, rfl, hca, hcma⟩ := hsa.slice
  obtain ⟨ob, capb, rfl, hcb, hcmb⟩ := hsb.slice
  obtain ⟨na, hna⟩ : ∃ n, n = C.length := ⟨_, rfl⟩
  obtain ⟨nb, hnb⟩ : ∃ n, n = C'.length := ⟨_, rfl⟩
  rw [← hna] at hsa hca ⊢
  rw [← hnb] at hsb hcb ⊢
  have HSA : Hid (Sl w (.slice oa na capa) C) := hsa
  have HSB : Hid (Sl w (.slice ob nb capb) C') := hsb
  have hHl := hH.1
  have HH : Hid (Byt H) := hH
  clear hsa hsb hna hnb hH hcma hcmb
  go_enter Try.func5, Try.ntmps5
  go_wp2_with fail
  refine (awake_any _).mono ?_
  rintro e w1 ⟨rfl, hb1⟩
  have g0 : w1.heap[w.heap.size]? = some (.cells (hv H) 36 (0, 0)) := by rw [hb1.block _ (by simp)]; exact heap_new _ _ _ rfl
  have B1 : Below w.heap.size w w1 := ((Below.refl _ _).alloc (Nat.le_refl _) _).trans (hb1.mono (by simp))
  clear hb1
  obtain ⟨ka, hka⟩ : ∃ k, k = min na 60 := ⟨_, rfl⟩
  obtain ⟨kb, hkb⟩ : ∃ k, k = min nb 60 := ⟨_, rfl⟩
  have hkan : ka ≤ na := by omega
  have hkbn : kb ≤ nb := by omega
  have hka60 : ka ≤ 60 := by omega
  have hkb60 : kb ≤ 60 := by omega
  have hkac : ka ≤ capa := by omega
  have hkbc : kb ≤ capb := by omega
  have HKA : Hid ((ka : Int) = min (na : Int) 60) := by show _ = _; omega
  have HKB : Hid ((kb : Int) = min (nb : Int) 60) := by show _ = _; omega
  have HSA1 : Hid (Sl w1 (.slice oa ka capa) (C.take ka)) := (HSA.out.below B1).take ka hkan
  have HSB1 : Hid (Sl w1 (.slice ob kb capb) (C'.take kb)) := (HSB.out.below B1).take kb hkbn
  obtain ⟨A, hA⟩ : ∃ A, A = C.take ka := ⟨_, rfl⟩
  obtain ⟨B, hB⟩ : ∃ B, B = C'.take kb := ⟨_, rfl⟩
  have hAl : A.length ≤ 60 := by rw [hA, List.length_take]; omega
  have hBl : B.length ≤ 60 := by rw [hB, List.length_take]; omega
  rw [← hA] at HSA1
  rw [← hB] at HSB1
  have HX : Hid (crossE A B m = 4 ∨ crossE A B m = 0 ∧ hasL (crossP A B m) H = (hasL A H && hasL B H)) := by
    unfold crossE crossP
    by_cases c : (crossL A B).length ≤ bnd4 m
    · rw [if_pos c, if_pos c]; exact .inr ⟨rfl, hasL_cross A B H⟩
    · rw [if_neg c]; exact .inl rfl
  have hPl : (crossP A B m).length ≤ 2048 := by
    unfold crossP
    by_cases c : (crossL A B).length ≤ bnd4 m
    · rw [if_pos c]; exact Nat.le_trans c (bnd4_le m)
    · rw [if_neg c]; exact Nat.zero_le _
  have D1 : Hid (∀ W, Sl W (.slice oa ka capa) A → Sl W (.slice ob kb capb) B → Calls Try.prog 11 #[.slice oa ka capa, .slice ob kb capb, .int .i64 m] W fun e w' => ∃ u, e = .returned (.tuple #[u, .int .i64 (crossE A B m)]) ∧ Sl w' u (crossP A B m) ∧ Below W.heap.size W w') := fun W h1 h2 => cross_uni A B (by omega) (by omega) m _ _ W h1 h2
  have D2 : Hid (∀ W, Sl W (.slice oa ka capa) A → Sl W (.slice ob kb capb) B → Calls Try.prog 12 #[.slice oa ka capa, .slice ob kb capb, .int .i64 m] W fun e w' => ∃ u, e = .returned (.tuple #[u, .int .i64 (crossE A B m)]) ∧ Sl w' u (crossP A B m) ∧ Below W.heap.size W w') := fun W h1 h2 => rcross_uni A B (by omega) (by omega) m _ _ W h1 h2
  have D3 : Hid (∀ (v : Value) (W : World), Sl W v (crossP A B m) → Calls Try.prog 14 #[v, .agg (hv H)] W fun e w' => e = .returned (.bool (hasL (crossP A B m) H)) ∧ Below W.heap.size W w') := fun v W h => chas_any _ H HH.out (by omega) v W h
  have D4 : Hid (∀ W, Sl W (.slice oa ka capa) A → Calls Try.prog 14 #[.slice oa ka capa, .agg (hv H)] W fun e w' => e = .returned (.bool (hasL A H)) ∧ Below W.heap.size W w') := fun W h => chas_any _ H HH.out (by omega) _ W h
  have D5 : Hid (∀ W, Sl W (.slice ob kb capb) B → Calls Try.prog 14 #[.slice ob kb capb, .agg (hv H)] W fun e w' => e = .returned (.bool (hasL B H)) ∧ Below W.heap.size W w') := fun W h => chas_any _ H HH.out (by omega) _ W h
  obtain ⟨E, hE⟩ : ∃ E, E = crossE A B m := ⟨_, rfl⟩
  obtain ⟨P, hP⟩ : ∃ P, P = crossP A B m := ⟨_, rfl⟩
  rw [← hE, ← hP] at D1 D2 HX
  rw [← hP] at D3 hPl
  clear hka hkb hA hB hE hP HSA HSB hAl hBl
  go_wp2_with (first
    | (refine wl_minI rfl _ _ rfl (na : Int) 60 (ka : Int) rfl rfl HKA.out ?_)
    | (refine wl_minI rfl _ _ rfl (nb : Int) 60 (kb : Int) rfl rfl HKB.out ?_))
  refine (D1.out _ HSA1.out HSB1.out).mono ?_
  rintro e w2 ⟨u, rfl, hsu, hb2⟩
  have g1 : w2.heap[w.heap.size]? = some (.cells (hv H) 36 (0, 0)) := by rw [hb2.block _ (Array.getElem?_eq_some_iff.1 g0).1]; exact g0
  have B2 := B1.trans (hb2.mono B1.size)
  have HSA2 : Hid (Sl w2 (.slice oa ka capa) A) := HSA1.out.below hb2
  have HSB2 : Hid (Sl w2 (.slice ob kb capb) B) := HSB1.out.below hb2
  have HSU : Hid (Sl w2 u P) := hsu
  clear hb2 hsu D1 g0 B1 HSA1 HSB1
  go_wp2_with fail
  refine (D2.out _ HSA2.out HSB2.out).mono ?_
  rintro e w3 ⟨v, rfl, hsv, hb3⟩
  have g2 : w3.heap[w.heap.size]? = some (.cells (hv H) 36 (0, 0)) := by rw [hb3.block _ (Array.getElem?_eq_some_iff.1 g1).1]; exact g1
  have B3 := B2.trans (hb3.mono B2.size)
  have HSA3 : Hid (Sl w3 (.slice oa ka capa) A) := HSA2.out.below hb3
  have HSB3 : Hid (Sl w3 (.slice ob kb capb) B) := HSB2.out.below hb3
  have HSU3 : Hid (Sl w3 u P) := HSU.out.below hb3
  have HSV : Hid (Sl w3 v P) := hsv
  clear hb3 hsv D2 g1 B2 HSA2 HSB2 HSU
  go_wp2_with fail
  refine (sameSl_any P (by omega) _ _ _ HSU3.out HSV.out).mono ?_
  rintro e w4 ⟨rfl, hb4⟩
  have g3 : w4.heap[w.heap.size]? = some (.cells (hv H) 36 (0, 0)) := by rw [hb4.block _ (Array.getElem?_eq_some_iff.1 g2).1]; exact g2
  have B4 := B3.trans (hb4.mono B3.size)
  have HSA4 : Hid (Sl w4 (.slice oa ka capa) A) := HSA3.out.below hb4
  have HSB4 : Hid (Sl w4 (.slice ob kb capb) B) := HSB3.out.below hb4
  have HSU4 : Hid (Sl w4 u P) := HSU3.out.below hb4
  clear hb4 g2 B3 HSA3 HSB3 HSU3 HSV
  have ne1 := Later.ne w4
  rcases HX.out with hE | ⟨hE, hh⟩
  · subst hE
    go_wp2_with fail
    refine wp_region_later (by kernel_rfl) (by kernel_rfl) ?_
    go_big_quiet_step (fail)
    go_big_quiet_step (fail)
    go_big_quiet_step (fail)
    go_big_quiet_step (fail)
    go_big_quiet_step (fail)
    go_big_quiet_step (fail)
    go_big_quiet_step (fail)
    go_big_quiet_step (fail)
    go_big_quiet_step (fail)
    go_big_quiet_step (fail)
    go_big_quiet_step (fail)
    go_big_quiet_step (fail)
    go_big_quiet_step (fail)
    go_big_quiet_step (fail)
    go_big_quiet_step (fail)
    go_big_quiet_step (fail)
    go_big_quiet_step (fail)
    refine wpQuiet_nil ?_
    rintro w' ⟨x, rfl⟩
    have hb5 := B4.trans (x.below.mono B4.size)
    go_wp2_with fail
    go_ret
    exact ⟨rfl, hb5⟩
  · subst hE
    rw [hh] at D3
    obtain ⟨x, hx⟩ : ∃ x, x = hasL A H := ⟨_, rfl⟩
    obtain ⟨y, hy⟩ : ∃ y, y = hasL B H := ⟨_, rfl⟩
    rw [← hx, ← hy] at D3
    rw [← hx] at D4
    rw [← hy] at D5
    clear hx hy hh
    go_wp2_with fail
    refine wp_region_later (by kernel_rfl) (by kernel_rfl) ?_
    cases x
    · have _q := ne1
      go_big_quiet_step (fail)
      go_big_quiet_step (fail)
      go_big_quiet_step (fail)
      go_big_quiet_step (fail)
      refine qlH rfl _ rfl w.heap.size rfl H g3 hHl ?_
      simp only [Act.put, List.setIfInBounds_toArray, List.set_cons_succ, List.set_cons_zero]
      go_big_quiet_want; go_big_quiet_op
      refine ⟨_, fun z => Calls.later_of (D3.out _ z.world (HSU4.out.below z.below)), ?_⟩
      go_big_quiet_on
      go_big_quiet_step (fail)
      refine qlH rfl _ rfl w.heap.size rfl H g3 hHl ?_
      simp only [Act.put, List.setIfInBounds_toArray, List.set_cons_succ, List.set_cons_zero]
      go_big_quiet_want; go_big_quiet_op
      refine ⟨_, fun z => Calls.later_of (D4.out z.world (HSA4.out.below z.below)), ?_⟩
      go_big_quiet_on
      go_big_quiet_step (fail)
      go_big_quiet_step (fail)
      go_big_quiet_step (fail)
      go_big_quiet_step (fail)
      go_big_quiet_step (fail)
      go_big_quiet_step (fail)
      go_big_quiet_step (fail)
      go_big_quiet_step (fail)
      refine wpQuiet_nil ?_
      rintro w' ⟨z, rfl⟩
      have hb5 := B4.trans (z.below.mono B4.size)
      go_wp2_with fail
      go_ret
      exact ⟨rfl, hb5⟩
    · cases y
      · have _q := ne1
        go_big_quiet_step (fail)
        go_big_quiet_step (fail)
        go_big_quiet_step (fail)
        go_big_quiet_step (fail)
        refine qlH rfl _ rfl w.heap.size rfl H g3 hHl ?_
        simp only [Act.put, List.setIfInBounds_toArray, List.set_cons_succ, List.set_cons_zero]
        go_big_quiet_want; go_big_quiet_op
        refine ⟨_, fun z => Calls.later_of (D3.out _ z.world (HSU4.out.below z.below)), ?_⟩
        go_big_quiet_on
        go_big_quiet_step (fail)
        refine qlH rfl _ rfl w.heap.size rfl H g3 hHl ?_
        simp only [Act.put, List.setIfInBounds_toArray, List.set_cons_succ, List.set_cons_zero]
        go_big_quiet_want; go_big_quiet_op
        refine ⟨_, fun z => Calls.later_of (D4.out z.world (HSA4.out.below z.below)), ?_⟩
        go_big_quiet_on
        go_big_quiet_step (fail)
        go_big_quiet_step (fail)
        refine qlH rfl _ rfl w.heap.size rfl H g3 hHl ?_
        simp only [Act.put, List.setIfInBounds_toArray, List.set_cons_succ, List.set_cons_zero]
        go_big_quiet_want; go_big_quiet_op
        refine ⟨_, fun z => Calls.later_of (D5.out z.world (HSB4.out.below z.below)), ?_⟩
        go_big_quiet_on
        go_big_quiet_step (fail)
        go_big_quiet_step (fail)
        go_big_quiet_step (fail)
        go_big_quiet_step (fail)
        refine wpQuiet_nil ?_
        rintro w' ⟨z, rfl⟩
        have hb5 := B4.trans (z.below.mono B4.size)
        go_wp2_with fail
        go_ret
        exact ⟨rfl, hb5⟩
      · have _q := ne1
        go_big_quiet_step (fail)
        go_big_quiet_step (fail)
        go_big_quiet_step (fail)
        go_big_quiet_step (fail)
        refine qlH rfl _ rfl w.heap.size rfl H g3 hHl ?_
        simp only [Act.put, List.setIfInBounds_toArray, List.set_cons_succ, List.set_cons_zero]
        go_big_quiet_want; go_big_quiet_op
        refine ⟨_, fun z => Calls.later_of (D3.out _ z.world (HSU4.out.below z.below)), ?_⟩
        go_big_quiet_on
        go_big_quiet_step (fail)
        refine qlH rfl _ rfl w.heap.size rfl H g3 hHl ?_
        simp only [Act.put, List.setIfInBounds_toArray, List.set_cons_succ, List.set_cons_zero]
        go_big_quiet_want; go_big_quiet_op
        refine ⟨_, fun z => Calls.later_of (D4.out z.world (HSA4.out.below z.below)), ?_⟩
        go_big_quiet_on
        go_big_quiet_step (fail)
        go_big_quiet_step (fail)
        refine qlH rfl _ rfl w.heap.size rfl H g3 hHl ?_
        simp only [Act.put, List.setIfInBounds_toArray, List.set_cons_succ, List.set_cons_zero]
        go_big_quiet_want; go_big_quiet_op
        refine ⟨_, fun z => Calls.later_of (D5.out z.world (HSB4.out.below z.below)), ?_⟩
        go_big_quiet_on
        go_big_quiet_step (fail)
        go_big_quiet_step (fail)
        go_big_quiet_step (fail)
        go_big_quiet_step (fail)
        refine wpQuiet_nil ?_
        rintro w' ⟨z, rfl⟩
        have hb5 := B4.trans (z.below.mono B4.size)
        go_wp2_with fail
        go_ret
        exact ⟨rfl, hb5⟩
end Go.Proofs.Ytplnlmkmaapbaaa
