import Derived.Test.YtjlghkiplapodaaJ13
namespace Go.Proofs.Ytjlghkiplapodaa
open Go Go.RowKit

theorem cnt_zero (H : List Int) : ∀ C : List (List Int × List Int), (∀ c ∈ C, has c.1 c.2 H = false) → cnt H C = 0
  | [], _ => rfl
  | c :: C, h => by rw [cnt, h c (by simp), cnt_zero H C fun d hd => h d (by simp [hd])]; rfl
theorem apart_cnt (H : List Int) : ∀ C : List (List Int × List Int), Apart C → cnt H C ≤ 1
  | [], _ => Nat.zero_le _
  | c :: C, h => by
    have ih := apart_cnt H C fun i k U N U' N' hik h1 h2 => h (i + 1) (k + 1) U N U' N' (by omega) (by simpa using h1) (by simpa using h2)
    rw [cnt]
    cases hc : has c.1 c.2 H
    · simpa using ih
    · rw [cnt_zero H C fun d hd => ?_]
      · simp
      · cases hd2 : has d.1 d.2 H
        · rfl
        · obtain ⟨i, hi⟩ := List.getElem?_of_mem hd
          have := h 0 (i + 1) c.1 c.2 d.1 d.2 (by omega) rfl (by simpa using hi)
          rw [has_meets hc hd2] at this
          cases this
theorem cnt_at (H : List Int) {C : List (List Int × List Int)} {k : Nat} {U N : List Int} (hk : C[k]? = some (U, N)) : cnt H (C.take (k + 1)) = cnt H (C.take k) + if has U N H = true then 1 else 0 := by
  rw [List.take_add_one, hk, cnt_append]
  simp [cnt]

set_option maxHeartbeats 4000000 in
theorem lawApart_any (C : List (List Int × List Int)) (H : List Int) (hH : Byt H) (v : Value) (w : World) (hs : Sl w v C) :
    Calls Try.prog 4 #[v, .agg (hv H)] w fun e w' => e = .returned (.bool true) ∧ Below w.heap.size w w' := by
  obtain ⟨o, cap, rfl, hcap, hcm⟩ := hs.slice
  obtain ⟨n, hne⟩ : ∃ n, n = C.length := ⟨_, rfl⟩
  rw [← hne] at hs hcap ⊢
  have HS : Hid (Sl w (.slice o n cap) C) := hs
  have HN : Hid (n = C.length) := hne
  have hHl := hH.1
  have HH : Hid (Byt H) := hH
  clear hs hne hH hcm
  go_enter Try.func4, Try.ntmps4
  go_wp2_with fail
  refine (awake3_any _).mono ?_
  rintro e w1 ⟨rfl, hb1⟩
  have g0 : w1.heap[w.heap.size]? = some (.cells (hv H) 24 (0, 0)) := by rw [hb1.block _ (by simp)]; exact heap_new _ _ _ rfl
  have B1 : Below w.heap.size w w1 := ((Below.refl _ _).alloc (Nat.le_refl _) _).trans (hb1.mono (by simp))
  clear hb1
  obtain ⟨k, hk⟩ : ∃ k, k = min n 40 := ⟨_, rfl⟩
  have hkn : k ≤ n := by omega
  have hk40 : k ≤ 40 := by omega
  have hkc : k ≤ cap := by omega
  have HKM : Hid (k = min n 40) := hk
  have HS1 : Hid (Sl w1 (.slice o k cap) (C.take k)) := (HS.out.below B1).cut k hk
  have HDL : Hid (k = (C.take k).length) := HS1.out.len.1
  obtain ⟨D, hD⟩ : ∃ D, D = C.take k := ⟨_, rfl⟩
  rw [← hD] at HS1 HDL
  have D3 : Hid (∀ W, Sl W (.slice o k cap) D → Calls Try.prog 12 #[.slice o k cap] W fun e w' => e = .returned (.bool (apartL D)) ∧ Below W.heap.size W w') := fun W h => apart_any _ (by rw [hD]; exact cut_len hk40) _ W h
  clear hk hD HS HN
  go_wp2_with (first
    | (refine wl_min rfl _ _ rfl n k rfl rfl HKM.out ?_))
  clear HKM hkn hcap
  go_loopw [5, 6] (fun c i wr => ∃ j : Nat, j ≤ k ∧ i = .int .i64 j ∧ c = .int .i64 ((cnt H (D.take j) : Nat) : Int) ∧ wr.heap[w.heap.size]? = some (.cells (hv H) 24 (0, 0)) ∧ Below w1.heap.size w1 wr) (fun _ i _ => k - (intOf i).toNat)
  case atStart => exact ⟨0, Nat.zero_le _, rfl, rfl, g0, Below.refl _ _⟩
  case round =>
    clear g0
    obtain ⟨j, hj, rfl, rfl, g0, hb⟩ := hrel
    have hB2 := B1.trans (hb.mono B1.size)
    obtain ⟨c, hc⟩ : ∃ c, c = cnt H (D.take j) := ⟨_, rfl⟩
    have hcj : c ≤ j := by rw [hc]; exact Nat.le_trans (cnt_le H _) (by simp; omega)
    have HCN : Hid (c = cnt H (D.take j)) := hc
    rw [← hc]
    clear hc
    by_cases hlt : j < k
    · obtain ⟨g, off, cur, t, fr, U, N, rfl, hg, hcc, hCk, hU, hN⟩ := HS1.out.at j hlt
      have hUl := hU.1
      have hNl := hN.1
      have hg' : wr.heap[g]? = some (.cells cur t fr) := (hb.block g (Array.getElem?_eq_some_iff.1 hg).1).trans hg
      have HE : Hid (∀ i, i < 26 → cur[off + j * 26 + i]? = (cv U N)[i]?) := hcc
      have D1 : Hid (∀ W, Calls Try.prog 14 #[.agg (cv U N), .agg (hv H)] W fun e w' => e = .returned (.bool (has U N H)) ∧ Below W.heap.size W w') := has_any U N H hU hN HH.out
      have HCT : Hid (cnt H (D.take (j + 1)) = c + if has U N H = true then 1 else 0) := by show _ = _; rw [HCN.out]; exact cnt_at H hCk
      obtain ⟨b, hbb⟩ : ∃ b, b = has U N H := ⟨_, rfl⟩
      rw [← hbb] at D1 HCT
      clear hg hcc hCk hU hN hbb
      go_wp2_with fail
      have ne1 := Later.ne wr
      refine wp_region_later (by kernel_rfl) (by kernel_rfl) ?_
      go_big_quiet_step (fail)
      go_big_quiet_step (fail)
      go_big_quiet_step (fail)
      refine qlSl rfl _ rfl g (off + j * 26) rfl cur t fr U N hUl hNl hg' HE.out ?_
      simp only [Act.put, List.setIfInBounds_toArray, List.set_cons_succ, List.set_cons_zero]
      refine qlH rfl _ rfl w.heap.size rfl H g0 hHl ?_
      simp only [Act.put, List.setIfInBounds_toArray, List.set_cons_succ, List.set_cons_zero]
      go_big_quiet_want; go_big_quiet_op
      refine ⟨_, fun u => Calls.later_of (D1.out u.world), ?_⟩
      go_big_quiet_on
      refine wpQuiet_nil ?_
      rintro w' ⟨u, rfl⟩
      have hb3 := hb.trans (u.below.mono hb.size)
      have g1 := later_block g0 _ ⟨u, rfl⟩
      clear ne1 D1 hb hg' g0
      cases b
      · go_wp2_with fail
        go_roundw
        case rel => exact ⟨j + 1, by omega, by go_num, by rw [HCT.out]; simp, g1, hb3⟩
        case measure => simp [intOf]; omega
      · go_wp2_with fail
        go_roundw
        case rel => exact ⟨j + 1, by omega, by go_num, by rw [HCT.out]; simp, g1, hb3⟩
        case measure => simp [intOf]; omega
    · obtain rfl : j = k := by omega
      have HCD : Hid (c = cnt H D) := by
        have := HCN.out
        rw [HDL.out, List.take_length] at this
        exact this
      have HS2 : Hid (Sl wr (.slice o j cap) D) := HS1.out.below hb
      by_cases h1 : c ≤ 1
      · go_wp2_with fail
        go_ret
        exact ⟨rfl, hB2⟩
      · have hap : apartL D = false := by
          cases h : apartL D
          · rfl
          · have := apart_cnt H D (apartL_iff.1 h)
            have := HCD.out
            omega
        rw [hap] at D3
        have h2 : 1 < c := by omega
        clear hap
        go_wp2_with fail
        refine (D3.out _ HS2.out).mono ?_
        rintro e w4 ⟨rfl, hb4⟩
        go_wp2_with fail
        go_ret
        exact ⟨rfl, hB2.trans (hb4.mono hB2.size)⟩
end Go.Proofs.Ytjlghkiplapodaa
namespace Go.Proofs.Ytjlghkiplapodaa
open Go Go.RowKit

theorem cnt_minusL (H : List Int) (b : List Int × List Int) : ∀ P : List (List Int × List Int), cnt H (minusL P b) = if has b.1 b.2 H = true then 0 else cnt H P
  | [] => by simp [minusL, cnt]
  | p :: P => by
    have ih := cnt_minusL H b P
    rw [show minusL (p :: P) b = minusC p.1 p.2 b.1 b.2 ++ minusL P b by simp [minusL], cnt_append, ih, cnt_minus, cnt]
    cases has p.1 p.2 H <;> cases has b.1 b.2 H <;> simp
theorem cnt_leftGo (H : List Int) (most : Nat) : ∀ (L P R : List (List Int × List Int)), leftGo most P L = some R → cnt H R = if hasL L H = true then 0 else cnt H P
  | [], P, R, h => by
    have : P = R := by simpa [leftGo] using h
    rw [this]; simp [hasL]
  | b :: L, P, R, h => by
    rw [leftGo] at h
    split at h
    · cases h
    · rw [cnt_leftGo H most L _ R h, cnt_minusL]
      have : hasL (b :: L) H = (has b.1 b.2 H || hasL L H) := by simp [hasL]
      rw [this]
      cases has b.1 b.2 H <;> cases hasL L H <;> simp
theorem cnt_leftC (H V M : List Int) (L R : List (List Int × List Int)) (most : Nat) (h : leftC V M L most = some R) : cnt H R = if (has V M H && !(hasL L H)) = true then 1 else 0 := by
  unfold leftC at h
  split at h
  · cases h
  · rw [cnt_leftGo H most L _ R h, cnt, cnt, has_can']
    cases has V M H <;> cases hasL L H <;> simp

set_option maxHeartbeats 4000000 in
theorem lawPieces_any (V M : List Int) (hV : Byt V) (hM : Byt M) (C : List (List Int × List Int)) (H : List Int) (hH : Byt H) (v : Value) (w : World) (hs : Sl w v C) :
    Calls Try.prog 6 #[.agg (cv V M), v, .agg (hv H)] w fun e w' => e = .returned (.bool true) ∧ Below w.heap.size w w' := by
  obtain ⟨o, cap, rfl, hcap, hcm⟩ := hs.slice
  obtain ⟨n, hne⟩ : ∃ n, n = C.length := ⟨_, rfl⟩
  rw [← hne] at hs hcap ⊢
  have HS : Hid (Sl w (.slice o n cap) C) := hs
  have hVl := hV.1
  have hMl := hM.1
  have hHl := hH.1
  have HVM : Hid (Byt V ∧ Byt M ∧ Byt H) := ⟨hV, hM, hH⟩
  clear hs hne hV hM hcm hH
  go_enter Try.func6, Try.ntmps6
  go_wp2_with fail
  refine (awake3_any _).mono ?_
  rintro e w1 ⟨rfl, hb1⟩
  have g0 : w1.heap[w.heap.size]? = some (.cells (cv V M) 30 (0, 0)) := by rw [hb1.block _ (by simp; omega)]; exact heap_past _ _ _ _ (heap_new _ _ _ rfl)
  have g1 : w1.heap[w.heap.size + 1]? = some (.cells (hv H) 24 (0, 0)) := by rw [hb1.block _ (by simp)]; exact heap_new _ _ _ (by simp)
  have B1 : Below w.heap.size w w1 := (((Below.refl _ _).alloc (Nat.le_refl _) _).alloc (by simp) _).trans (hb1.mono (by simp; omega))
  clear hb1
  obtain ⟨k, hk⟩ : ∃ k, k = min n 40 := ⟨_, rfl⟩
  have hkn : k ≤ n := by omega
  have hk40 : k ≤ 40 := by omega
  have hkc : k ≤ cap := by omega
  have HKM : Hid (k = min n 40) := hk
  have HS1 : Hid (Sl w1 (.slice o k cap) (C.take k)) := (HS.out.below B1).cut k hk
  obtain ⟨D, hD⟩ : ∃ D, D = C.take k := ⟨_, rfl⟩
  have hDl : D.length ≤ 1000000 := by rw [hD]; exact cut_len hk40
  rw [← hD] at HS1
  have HDL : Hid (D.length ≤ 1000000) := hDl
  clear hk hD HS hDl
  cases hR : leftC V M D (bnd 1000) with
  | none =>
    have D1 : Hid (∀ W, Sl W (.slice o k cap) D → Calls Try.prog 15 #[.agg (cv V M), .slice o k cap, .int .i64 1000] W fun e w' => e = .returned (.tuple #[.slice none 0 0, .int .i64 4]) ∧ Below W.heap.size W w') := fun W h => left_none HVM.out.1 HVM.out.2.1 HDL.out hR _ W h
    clear hR
    go_wp2_with (first
      | (refine wl_min rfl _ _ rfl n k rfl rfl HKM.out ?_)
      | (refine wl_loadC rfl _ rfl w.heap.size rfl V M g0 hVl hMl ?_))
    refine (D1.out _ HS1.out).mono ?_
    rintro e w2 ⟨rfl, hb2⟩
    go_wp2_with fail
    go_ret
    exact ⟨rfl, B1.trans (hb2.mono B1.size)⟩
  | some R =>
    have D1 : Hid (∀ W, Sl W (.slice o k cap) D → Calls Try.prog 15 #[.agg (cv V M), .slice o k cap, .int .i64 1000] W fun e w' => ∃ u, e = .returned (.tuple #[u, .int .i64 0]) ∧ Sl w' u R ∧ R.length ≤ 1000 ∧ Below W.heap.size W w') := fun W h => left_some HVM.out.1 HVM.out.2.1 HDL.out hR _ W h
    have HCR : Hid (cnt H R = if (has V M H && !(hasL D H)) = true then 1 else 0) := cnt_leftC H V M D R _ hR
    have D4 : Hid (∀ W, Calls Try.prog 14 #[.agg (cv V M), .agg (hv H)] W fun e w' => e = .returned (.bool (has V M H)) ∧ Below W.heap.size W w') := has_any V M H HVM.out.1 HVM.out.2.1 HVM.out.2.2
    have D5 : Hid (∀ W, Sl W (.slice o k cap) D → Calls Try.prog 10 #[.slice o k cap, .agg (hv H)] W fun e w' => e = .returned (.bool (hasL D H)) ∧ Below W.heap.size W w') := fun W h => chas_any D H HVM.out.2.2 HDL.out _ W h
    obtain ⟨x, hx⟩ : ∃ x, x = has V M H := ⟨_, rfl⟩
    obtain ⟨y, hy⟩ : ∃ y, y = hasL D H := ⟨_, rfl⟩
    rw [← hx] at D4 HCR
    rw [← hy] at D5 HCR
    clear hR hx hy
    go_wp2_with (first
      | (refine wl_min rfl _ _ rfl n k rfl rfl HKM.out ?_)
      | (refine wl_loadC rfl _ rfl w.heap.size rfl V M g0 hVl hMl ?_))
    refine (D1.out _ HS1.out).mono ?_
    rintro e w2 ⟨u, rfl, hsl, hrl, hb2⟩
    have z1 := (Array.getElem?_eq_some_iff.1 g1).1
    have p0 : w2.heap[w.heap.size]? = some (.cells (cv V M) 30 (0, 0)) := by rw [hb2.block _ (by omega)]; exact g0
    have p1 : w2.heap[w.heap.size + 1]? = some (.cells (hv H) 24 (0, 0)) := by rw [hb2.block _ (by omega)]; exact g1
    have B2 := B1.trans (hb2.mono B1.size)
    have HS2 : Hid (Sl w2 (.slice o k cap) D) := HS1.out.below hb2
    obtain ⟨ro, rcap, rfl, _, _⟩ := hsl.slice
    obtain ⟨rn, hrn⟩ : ∃ rn, rn = R.length := ⟨_, rfl⟩
    have HRN : Hid (rn = R.length) := hrn
    rw [← hrn] at hsl hrl ⊢
    have HSR : Hid (Sl w2 (.slice ro rn rcap) R) := hsl
    clear hb2 hsl hrn D1 g0 g1 B1 HS1 HKM hkn hcap
    go_wp2_with fail
    go_loopw [9, 10] (fun c i wr => ∃ j : Nat, j ≤ rn ∧ i = .int .i64 j ∧ c = .int .i64 ((cnt H (R.take j) : Nat) : Int) ∧ Below w2.heap.size w2 wr) (fun _ i _ => rn - (intOf i).toNat)
    case atStart => exact ⟨0, Nat.zero_le _, rfl, rfl, Below.refl _ _⟩
    case round =>
      obtain ⟨j, hj, rfl, rfl, hb⟩ := hrel
      have z2 := (Array.getElem?_eq_some_iff.1 p1).1
      have q0 : wr.heap[w.heap.size]? = some (.cells (cv V M) 30 (0, 0)) := by rw [hb.block _ (by omega)]; exact p0
      have q1 : wr.heap[w.heap.size + 1]? = some (.cells (hv H) 24 (0, 0)) := by rw [hb.block _ (by omega)]; exact p1
      have hB2 := B2.trans (hb.mono B2.size)
      obtain ⟨c, hc⟩ : ∃ c, c = cnt H (R.take j) := ⟨_, rfl⟩
      have hcj : c ≤ j := by rw [hc]; exact Nat.le_trans (cnt_le H _) (by simp; omega)
      have HCN : Hid (c = cnt H (R.take j)) := hc
      rw [← hc]
      clear hc
      by_cases hlt : j < rn
      · obtain ⟨g, off, cur, t, fr, U, N, rfl, hg, hcc, hCk, hU, hN⟩ := HSR.out.at j hlt
        have hUl := hU.1
        have hNl := hN.1
        have hg' : wr.heap[g]? = some (.cells cur t fr) := (hb.block g (Array.getElem?_eq_some_iff.1 hg).1).trans hg
        have HE : Hid (∀ i, i < 26 → cur[off + j * 26 + i]? = (cv U N)[i]?) := hcc
        have D1 : Hid (∀ W, Calls Try.prog 14 #[.agg (cv U N), .agg (hv H)] W fun e w' => e = .returned (.bool (has U N H)) ∧ Below W.heap.size W w') := has_any U N H hU hN HVM.out.2.2
        have HCT : Hid (cnt H (R.take (j + 1)) = c + if has U N H = true then 1 else 0) := by show _ = _; rw [HCN.out]; exact cnt_at H hCk
        obtain ⟨b, hbb⟩ : ∃ b, b = has U N H := ⟨_, rfl⟩
        rw [← hbb] at D1 HCT
        clear hg hcc hCk hU hN hbb
        go_wp2_with fail
        have ne1 := Later.ne wr
        refine wp_region_later (by kernel_rfl) (by kernel_rfl) ?_
        go_big_quiet_step (fail)
        go_big_quiet_step (fail)
        go_big_quiet_step (fail)
        refine qlSl rfl _ rfl g (off + j * 26) rfl cur t fr U N hUl hNl hg' HE.out ?_
        simp only [Act.put, List.setIfInBounds_toArray, List.set_cons_succ, List.set_cons_zero]
        refine qlH rfl _ rfl (w.heap.size + 1) rfl H q1 hHl ?_
        simp only [Act.put, List.setIfInBounds_toArray, List.set_cons_succ, List.set_cons_zero]
        go_big_quiet_want; go_big_quiet_op
        refine ⟨_, fun u => Calls.later_of (D1.out u.world), ?_⟩
        go_big_quiet_on
        refine wpQuiet_nil ?_
        rintro w' ⟨u, rfl⟩
        have hb3 := hb.trans (u.below.mono hb.size)
        clear ne1 D1 hb hg' q0 q1
        cases b
        · go_wp2_with fail
          go_roundw
          case rel => exact ⟨j + 1, by omega, by go_num, by rw [HCT.out]; simp, hb3⟩
          case measure => simp [intOf]; omega
        · go_wp2_with fail
          go_roundw
          case rel => exact ⟨j + 1, by omega, by go_num, by rw [HCT.out]; simp, hb3⟩
          case measure => simp [intOf]; omega
      · obtain rfl : j = rn := by omega
        have HCD : Hid (c = if (x && !y) = true then 1 else 0) := by
          have := HCN.out
          rw [HRN.out, List.take_length, HCR.out] at this
          exact this
        have HS3 : Hid (Sl wr (.slice o k cap) D) := HS2.out.below hb
        clear p0 p1 hb hcj HCN HS2 HCR
        go_wp2_with (first
          | (refine wl_loadC rfl _ rfl w.heap.size rfl V M q0 hVl hMl ?_)
          | (refine wl_load26 rfl _ rfl (w.heap.size + 1) rfl H q1 hHl ?_))
        refine (D4.out _).mono ?_
        rintro e w4 ⟨rfl, hb4⟩
        have r1 : w4.heap[w.heap.size + 1]? = some (.cells (hv H) 24 (0, 0)) := by rw [hb4.block _ (Array.getElem?_eq_some_iff.1 q1).1]; exact q1
        have B4 := hB2.trans (hb4.mono hB2.size)
        have HS4 : Hid (Sl w4 (.slice o k cap) D) := HS3.out.below hb4
        clear hb4 D4 q0 q1 HS3
        cases x
        · obtain rfl : c = 0 := by have := HCD.out; simpa using this
          clear HCD
          go_wp2_with fail
          go_ret
          exact ⟨rfl, B4⟩
        · go_wp2_with (first
            | (refine wl_loadHg rfl _ rfl (w.heap.size + 1) rfl H r1 hHl ?_))
          refine (D5.out _ HS4.out).mono ?_
          rintro e w5 ⟨rfl, hb5⟩
          have B5 := B4.trans (hb5.mono B4.size)
          clear hb5 D5 r1 HS4
          cases y
          · obtain rfl : c = 1 := by have := HCD.out; simpa using this
            clear HCD
            go_wp2_with fail
            go_ret
            exact ⟨rfl, B5⟩
          · obtain rfl : c = 0 := by have := HCD.out; simpa using this
            clear HCD
            go_wp2_with fail
            go_ret
            exact ⟨rfl, B5⟩
end Go.Proofs.Ytjlghkiplapodaa
namespace Go.Proofs.Ytjlghkiplapodaa
open Go Go.RowKit

theorem least_mem : ∀ (b : List Int) (C : List (List Int × List Int)), least b C = b ∨ ∃ c ∈ C, least b C = can c.1 c.2
  | b, [] => .inl rfl
  | b, c :: C => by
    rw [least]
    rcases least_mem (if lessL (can c.1 c.2) b = true then can c.1 c.2 else b) C with h | ⟨d, hd, h⟩
    · rw [h]
      split
      · exact .inr ⟨c, by simp, rfl⟩
      · exact .inl rfl
    · exact .inr ⟨d, by simp [hd], h⟩
theorem outH_mem (c : List Int × List Int) (C : List (List Int × List Int)) : ∃ d ∈ c :: C, outH (some (c :: C)) = can d.1 d.2 := by
  rcases least_mem (can c.1 c.2) C with h | ⟨d, hd, h⟩
  · exact ⟨c, by simp, h⟩
  · exact ⟨d, by simp [hd], h⟩
theorem has_own (U N : List Int) : has U N (can U N) = true := (has_iff _ _ _).2 fun i hi hm => by rw [can_bt _ _ i hi, hm, Bool.and_true]
theorem cnt_pos (H : List Int) : ∀ (C : List (List Int × List Int)) (c : List Int × List Int), c ∈ C → has c.1 c.2 H = true → 1 ≤ cnt H C
  | d :: C, c, hc, h => by
    rw [cnt]
    rcases List.mem_cons.1 hc with rfl | hc
    · rw [h]; simp
    · have := cnt_pos H C c hc h
      omega
theorem outH_byt (R : Option (List (List Int × List Int))) : Byt (outH R) := by
  match R with
  | none => exact b0
  | some [] => exact b0
  | some (c :: C) =>
    obtain ⟨d, _, h⟩ := outH_mem c C
    rw [h]; exact can_byt _ _
theorem outH_in (V M : List Int) (L : List (List Int × List Int)) (most : Nat) (c : List Int × List Int) (C : List (List Int × List Int)) (h : leftC V M L most = some (c :: C)) : has V M (outH (some (c :: C))) = true ∧ hasL L (outH (some (c :: C))) = false := by
  obtain ⟨d, hd, he⟩ := outH_mem c C
  have h1 := cnt_leftC (outH (some (c :: C))) V M L _ most h
  have h2 := cnt_pos (outH (some (c :: C))) (c :: C) d hd (by rw [he]; exact has_own _ _)
  rw [h1] at h2
  revert h2
  cases has V M (outH (some (c :: C))) <;> cases hasL L (outH (some (c :: C))) <;> simp

set_option maxHeartbeats 8000000 in
set_option maxRecDepth 100000 in
theorem lawCovers_any (V M : List Int) (hV : Byt V) (hM : Byt M) (C : List (List Int × List Int)) (m : Int) (v : Value) (w : World) (hs : Sl w v C) :
    Calls Try.prog 7 #[.agg (cv V M), v, .int .i64 m] w fun e w' => e = .returned (.bool true) ∧ Below w.heap.size w w' := by
  obtain ⟨o, cap, rfl, hcap, hcm⟩ := hs.slice
  obtain ⟨n, hne⟩ : ∃ n, n = C.length := ⟨_, rfl⟩
  rw [← hne] at hs hcap ⊢
  have HS : Hid (Sl w (.slice o n cap) C) := hs
  have hVl := hV.1
  have hMl := hM.1
  have HVM : Hid (Byt V ∧ Byt M) := ⟨hV, hM⟩
  clear hs hne hV hM hcm
  go_enter Try.func7, Try.ntmps7
  go_wp2_with fail
  refine (awake3_any _).mono ?_
  rintro e w1 ⟨rfl, hb1⟩
  have g0 : w1.heap[w.heap.size]? = some (.cells (cv V M) 30 (0, 0)) := by rw [hb1.block _ (by simp)]; exact heap_new _ _ _ rfl
  have B1 : Below w.heap.size w w1 := ((Below.refl _ _).alloc (Nat.le_refl _) _).trans (hb1.mono (by simp))
  clear hb1
  obtain ⟨k, hk⟩ : ∃ k, k = min n 40 := ⟨_, rfl⟩
  have hkn : k ≤ n := by omega
  have hk40 : k ≤ 40 := by omega
  have hkc : k ≤ cap := by omega
  have HKM : Hid (k = min n 40) := hk
  have HS1 : Hid (Sl w1 (.slice o k cap) (C.take k)) := (HS.out.below B1).cut k hk
  obtain ⟨D, hD⟩ : ∃ D, D = C.take k := ⟨_, rfl⟩
  have hDl : D.length ≤ 1000000 := by rw [hD]; exact cut_len hk40
  rw [← hD] at HS1
  have HDL : Hid (D.length ≤ 1000000) := hDl
  clear hk hD HS hDl
  obtain ⟨R, hR⟩ : ∃ R, R = leftC V M D (bnd m) := ⟨_, rfl⟩
  have D1 : Hid (∀ W, Sl W (.slice o k cap) D → Calls Try.prog 18 #[.slice o k cap, .agg (cv V M), .int .i64 m] W fun e w' => e = .returned (.tuple #[.bool (covB R), .int .i64 (errI R)]) ∧ Below W.heap.size W w') := by rw [hR]; exact fun W h => covers_any V M HVM.out.1 HVM.out.2 D HDL.out m _ W h
  have D2 : Hid (∀ W, Sl W (.slice o k cap) D → Calls Try.prog 19 #[.slice o k cap, .agg (cv V M), .int .i64 m] W fun e w' => e = .returned (.tuple #[.bool (covB R), .int .i64 (errI R)]) ∧ Below W.heap.size W w') := by rw [hR]; exact fun W h => rcovers_any V M HVM.out.1 HVM.out.2 D HDL.out m _ W h
  have D3 : Hid (∀ W, Sl W (.slice o k cap) D → Calls Try.prog 20 #[.agg (cv V M), .slice o k cap, .int .i64 m] W fun e w' => e = .returned (.tuple #[.agg (hv (outH R)), .bool (outB R), .int .i64 (errI R)]) ∧ Below W.heap.size W w') := by rw [hR]; exact fun W h => out_any V M HVM.out.1 HVM.out.2 D HDL.out m _ W h
  have D4 : Hid (∀ W, Sl W (.slice o k cap) D → Calls Try.prog 21 #[.agg (cv V M), .slice o k cap, .int .i64 m] W fun e w' => e = .returned (.tuple #[.agg (hv (outH R)), .bool (outB R), .int .i64 (errI R)]) ∧ Below W.heap.size W w') := by rw [hR]; exact fun W h => rout_any V M HVM.out.1 HVM.out.2 D HDL.out m _ W h
  have HCASE : Hid ((covB R = false ∧ errI R = 4 ∧ outB R = false) ∨ (covB R = true ∧ errI R = 0 ∧ outB R = false) ∨ (covB R = false ∧ errI R = 0 ∧ outB R = true ∧ has V M (outH R) = true ∧ hasL D (outH R) = false)) := by
    match R, hR with
    | none, _ => exact .inl ⟨rfl, rfl, rfl⟩
    | some [], _ => exact .inr (.inl ⟨rfl, rfl, rfl⟩)
    | some (c :: C), h => exact .inr (.inr ⟨rfl, rfl, rfl, outH_in V M D _ c C h.symm⟩)
  have D5 : Hid (∀ W, Calls Try.prog 14 #[.agg (cv V M), .agg (hv (outH R))] W fun e w' => e = .returned (.bool (has V M (outH R))) ∧ Below W.heap.size W w') := has_any V M _ HVM.out.1 HVM.out.2 (outH_byt R)
  have D6 : Hid (∀ W, Sl W (.slice o k cap) D → Calls Try.prog 10 #[.slice o k cap, .agg (hv (outH R))] W fun e w' => e = .returned (.bool (hasL D (outH R))) ∧ Below W.heap.size W w') := fun W h => chas_any D _ (outH_byt R) HDL.out _ W h
  have hFl : (outH R).length = 13 := (outH_byt R).1
  obtain ⟨F, hF⟩ : ∃ F, F = outH R := ⟨_, rfl⟩
  obtain ⟨b, hbb⟩ : ∃ b, b = covB R := ⟨_, rfl⟩
  obtain ⟨y, hy⟩ : ∃ y, y = errI R := ⟨_, rfl⟩
  obtain ⟨z, hz⟩ : ∃ z, z = outB R := ⟨_, rfl⟩
  rw [← hF] at D3 D4 D5 D6 HCASE hFl
  rw [← hbb, ← hy] at D1 D2
  rw [← hz, ← hy] at D3 D4
  rw [← hbb, ← hy, ← hz] at HCASE
  have e1 : ∀ w, (Op.equalIn 10000 24 (.agg (hv F)) (.agg (hv F))).run Try.prog w = .ok true w := fun w => by rw [eq26 _ _ hFl hFl]; simp
  have eg : ∀ op x y (xs ys : Array Value) w, (eqGuard op 24 x y (.agg xs) (.agg ys)).run Try.prog w = .ok () w := fun op x y xs ys w => run_eqGuard_agg w op 24 x y xs ys (by kernel_rfl)
  clear hR hF hbb hy hz
  go_wp2_with (first
    | (refine wl_min rfl _ _ rfl n k rfl rfl HKM.out ?_)
    | (refine wl_loadC rfl _ rfl w.heap.size rfl V M g0 hVl hMl ?_))
  clear HKM hkn hcap
  refine (D1.out _ HS1.out).mono ?_
  rintro e w2 ⟨rfl, hb2⟩
  have g2 : w2.heap[w.heap.size]? = some (.cells (cv V M) 30 (0, 0)) := by rw [hb2.block _ (Array.getElem?_eq_some_iff.1 g0).1]; exact g0
  have B2 := B1.trans (hb2.mono B1.size)
  have HS2 : Hid (Sl w2 (.slice o k cap) D) := HS1.out.below hb2
  clear hb2 D1 g0 B1 HS1
  go_wp2_with (first
    | (refine wl_loadC rfl _ rfl w.heap.size rfl V M g2 hVl hMl ?_))
  refine (D2.out _ HS2.out).mono ?_
  rintro e w3 ⟨rfl, hb3⟩
  have g3 : w3.heap[w.heap.size]? = some (.cells (cv V M) 30 (0, 0)) := by rw [hb3.block _ (Array.getElem?_eq_some_iff.1 g2).1]; exact g2
  have B3 := B2.trans (hb3.mono B2.size)
  have HS3 : Hid (Sl w3 (.slice o k cap) D) := HS2.out.below hb3
  clear hb3 D2 g2 B2 HS2
  go_wp2_with (first
    | (refine wl_loadC rfl _ rfl w.heap.size rfl V M g3 hVl hMl ?_))
  refine (D3.out _ HS3.out).mono ?_
  rintro e w4 ⟨rfl, hb4⟩
  have b4 := hb4.alloc hb4.size (.cells (hv F) 24)
  have g4 : (w4.alloc (.cells (hv F) 24)).heap[w.heap.size]? = some (.cells (cv V M) 30 (0, 0)) := by rw [b4.block _ (Array.getElem?_eq_some_iff.1 g3).1]; exact g3
  have h4 := heap_new w4 (.cells (hv F) 24) _ rfl
  have B4 := B3.trans (b4.mono B3.size)
  have HS4 : Hid (Sl (w4.alloc (.cells (hv F) 24)) (.slice o k cap) D) := HS3.out.below b4
  clear hb4 b4 D3 g3 B3 HS3
  go_wp2_with (first
    | (refine wl_store26 rfl _ _ rfl w4.heap.size F rfl rfl _ (heap_new _ _ _ rfl) rfl hFl _ (setRow_new _ _ _ _ _ rfl) ?_)
    | (refine wl_loadC rfl _ rfl w.heap.size rfl V M g4 hVl hMl ?_))
  refine (D4.out _ HS4.out).mono ?_
  rintro e w5 ⟨rfl, hb5⟩
  have b5 := hb5.alloc hb5.size (.cells (hv F) 24)
  have g5 : (w5.alloc (.cells (hv F) 24)).heap[w.heap.size]? = some (.cells (cv V M) 30 (0, 0)) := by rw [b5.block _ (Array.getElem?_eq_some_iff.1 g4).1]; exact g4
  have h5 : (w5.alloc (.cells (hv F) 24)).heap[w4.heap.size]? = some (.cells (hv F) 24 (0, 0)) := by rw [b5.block _ (Array.getElem?_eq_some_iff.1 h4).1]; exact h4
  have j5 := heap_new w5 (.cells (hv F) 24) _ rfl
  have B5 := B4.trans (b5.mono B4.size)
  have HS5 : Hid (Sl (w5.alloc (.cells (hv F) 24)) (.slice o k cap) D) := HS4.out.below b5
  clear hb5 b5 D4 g4 h4 B4 HS4
  rcases HCASE.out with ⟨rfl, rfl, rfl⟩ | ⟨rfl, rfl, rfl⟩ | ⟨rfl, rfl, rfl, hx, hl⟩
  · clear HCASE D5 D6
    go_wp2_with (first
      | (refine wl_store26 rfl _ _ rfl w5.heap.size F rfl rfl _ (heap_new _ _ _ rfl) rfl hFl _ (setRow_new _ _ _ _ _ rfl) ?_)
      | (refine wl_loadHg rfl _ rfl w4.heap.size rfl F h5 hFl ?_)
      | (refine wl_loadHg rfl _ rfl w5.heap.size rfl F j5 hFl ?_))
    go_ret
    exact ⟨rfl, B5⟩
  · clear HCASE D5 D6
    go_wp2_with (first
      | go_skip
      | (refine wl_store26 rfl _ _ rfl w5.heap.size F rfl rfl _ (heap_new _ _ _ rfl) rfl hFl _ (setRow_new _ _ _ _ _ rfl) ?_)
      | (refine wl_loadHg rfl _ rfl w4.heap.size rfl F h5 hFl ?_)
      | (refine wl_loadHg rfl _ rfl w5.heap.size rfl F j5 hFl ?_))
    go_ret
    exact ⟨rfl, B5⟩
  · rw [hx] at D5
    rw [hl] at D6
    clear hx hl HCASE
    go_wp2_with (first
      | (refine wl_store26 rfl _ _ rfl w5.heap.size F rfl rfl _ (heap_new _ _ _ rfl) rfl hFl _ (setRow_new _ _ _ _ _ rfl) ?_)
      | (refine wl_loadHg rfl _ rfl w4.heap.size rfl F h5 hFl ?_)
      | (refine wl_loadHg rfl _ rfl w5.heap.size rfl F j5 hFl ?_)
      | (refine wl_loadCg rfl _ rfl w.heap.size rfl V M g5 hVl hMl ?_))
    refine (D5.out _).mono ?_
    rintro e w6 ⟨rfl, hb6⟩
    have h6 : w6.heap[w4.heap.size]? = some (.cells (hv F) 24 (0, 0)) := by rw [hb6.block _ (Array.getElem?_eq_some_iff.1 h5).1]; exact h5
    have B6 := B5.trans (hb6.mono B5.size)
    have HS6 : Hid (Sl w6 (.slice o k cap) D) := HS5.out.below hb6
    clear hb6 D5 g5 h5 j5 B5 HS5
    go_wp2_with (first
      | (refine wl_loadHg rfl _ rfl w4.heap.size rfl F h6 hFl ?_))
    refine (D6.out _ HS6.out).mono ?_
    rintro e w7 ⟨rfl, hb7⟩
    go_wp2_with fail
    go_ret
    exact ⟨rfl, B6.trans (hb7.mono B6.size)⟩
end Go.Proofs.Ytjlghkiplapodaa
namespace Go.Proofs.Ytjlghkiplapodaa
open Go Go.RowKit

theorem covB_true {R : Option (List (List Int × List Int))} (h : covB R = true) : R = some [] := by
  match R, h with
  | some [], _ => rfl
theorem each_has (L : List (List Int × List Int)) (m : Int) (H : List Int) : ∀ C : List (List Int × List Int), (eachR L m C).1 = true → hasL C H = true → hasL L H = true
  | [], _, h => by simp [hasL] at h
  | c :: C, h, hc => by
    rw [eachR] at h
    split at h
    · rename_i hcov
      have h1 : hasL (c :: C) H = (has c.1 c.2 H || hasL C H) := by simp [hasL]
      rw [h1] at hc
      cases hx : has c.1 c.2 H
      · rw [hx, Bool.false_or] at hc
        exact each_has L m H C h hc
      · have h2 := cnt_leftC H c.1 c.2 L [] (bnd m) (covB_true hcov)
        rw [hx] at h2
        cases hl : hasL L H
        · rw [hl] at h2; simp [cnt] at h2
        · rfl
    · cases h
theorem same_has (A B : List (List Int × List Int)) (m : Int) (H : List Int) (h : (sameR A B m).1 = true) : hasL A H = hasL B H := by
  unfold sameR at h
  split at h
  · rename_i h1
    rw [Bool.eq_iff_iff]
    exact ⟨each_has B m H A h1, each_has A m H B h⟩
  · cases h
theorem each_own (L : List (List Int × List Int)) (m : Int) : ∀ C : List (List Int × List Int), (∀ c ∈ C, c ∈ L) → eachR L m C = (true, 0) ∨ eachR L m C = (false, 4)
  | [], _ => .inl rfl
  | c :: C, h => by
    rw [eachR]
    cases hR : leftC c.1 c.2 L (bnd m) with
    | none => exact .inr rfl
    | some R =>
      match R, hR with
      | [], _ =>
        rw [if_pos (show covB (some []) = true from rfl)]
        exact each_own L m C fun d hd => h d (by simp [hd])
      | d :: R, hR =>
        exfalso
        have h1 := outH_in c.1 c.2 L _ d R hR
        have h2 : hasL L (outH (some (d :: R))) = true := by
          unfold hasL
          rw [List.any_eq_true]
          exact ⟨c, h c (by simp), h1.1⟩
        rw [h1.2] at h2
        cases h2
theorem same_own (A : List (List Int × List Int)) (m : Int) : sameR A A.reverse m = (true, 0) ∨ sameR A A.reverse m = (false, 4) := by
  unfold sameR
  rcases each_own A.reverse m A fun c hc => by simpa using hc with h | h
  · rw [h, if_pos rfl]
    exact each_own A m A.reverse fun c hc => by simpa using hc
  · rw [h]; exact .inr rfl

set_option maxHeartbeats 8000000 in
set_option maxRecDepth 100000 in
theorem lawSame_any (A B : List (List Int × List Int)) (H : List Int) (hH : Byt H) (va vb : Value) (w : World) (ha : Sl w va A) (hb : Sl w vb B) :
    Calls Try.prog 8 #[va, vb, .agg (hv H)] w fun e w' => e = .returned (.bool true) ∧ Below w.heap.size w w' := by
  obtain ⟨oa, ca, rfl, hca, _⟩ := ha.slice
  obtain ⟨ob, cb, rfl, hcb, _⟩ := hb.slice
  obtain ⟨na, hna⟩ : ∃ n, n = A.length := ⟨_, rfl⟩
  obtain ⟨nb, hnb⟩ : ∃ n, n = B.length := ⟨_, rfl⟩
  rw [← hna] at ha hca ⊢
  rw [← hnb] at hb hcb ⊢
  have HA : Hid (Sl w (.slice oa na ca) A) := ha
  have HB : Hid (Sl w (.slice ob nb cb) B) := hb
  have hHl := hH.1
  have HH : Hid (Byt H) := hH
  clear ha hb hna hnb hH
  go_enter Try.func8, Try.ntmps8
  go_wp2_with fail
  refine (awake3_any _).mono ?_
  rintro e w1 ⟨rfl, hb1⟩
  have g0 : w1.heap[w.heap.size]? = some (.cells (hv H) 24 (0, 0)) := by rw [hb1.block _ (by simp)]; exact heap_new _ _ _ rfl
  have B1 : Below w.heap.size w w1 := ((Below.refl _ _).alloc (Nat.le_refl _) _).trans (hb1.mono (by simp))
  clear hb1
  obtain ⟨k, hk⟩ : ∃ k, k = min na 40 := ⟨_, rfl⟩
  obtain ⟨l, hl⟩ : ∃ l, l = min nb 40 := ⟨_, rfl⟩
  have hk40 : k ≤ 40 := by omega
  have hkc : k ≤ ca := by omega
  have hl40 : l ≤ 40 := by omega
  have hlc : l ≤ cb := by omega
  have hkn : k ≤ na := by omega
  have hln : l ≤ nb := by omega
  have HKM : Hid (k = min na 40) := hk
  have HLM : Hid (l = min nb 40) := hl
  have HA1 : Hid (Sl w1 (.slice oa k ca) (A.take k)) := (HA.out.below B1).cut k hk
  have HB1 : Hid (Sl w1 (.slice ob l cb) (B.take l)) := (HB.out.below B1).cut l hl
  obtain ⟨D, hD⟩ : ∃ D, D = A.take k := ⟨_, rfl⟩
  obtain ⟨E, hE⟩ : ∃ E, E = B.take l := ⟨_, rfl⟩
  have HDL : Hid (D.length ≤ 1000000) := by show _ ≤ _; rw [hD]; exact cut_len hk40
  have HEL : Hid (E.length ≤ 1000000) := by show _ ≤ _; rw [hE]; exact cut_len hl40
  rw [← hD] at HA1
  rw [← hE] at HB1
  have HDK : Hid (k = D.length) := HA1.out.len.1
  clear hk hl hD hE HA HB
  obtain ⟨S, hS⟩ : ∃ S, S = sameR D E 500 := ⟨_, rfl⟩
  have D1 : Hid (∀ W, Sl W (.slice oa k ca) D → Sl W (.slice ob l cb) E → Calls Try.prog 22 #[.slice oa k ca, .slice ob l cb, .int .i64 500] W fun e w' => e = .returned (.tuple #[.bool S.1, .int .i64 S.2]) ∧ Below W.heap.size W w') := by rw [hS]; exact fun W h1 h2 => csame_any D E HDL.out HEL.out 500 _ _ W h1 h2
  have D2 : Hid (∀ W, Sl W (.slice oa k ca) D → Sl W (.slice ob l cb) E → Calls Try.prog 23 #[.slice oa k ca, .slice ob l cb, .int .i64 500] W fun e w' => e = .returned (.tuple #[.bool S.1, .int .i64 S.2]) ∧ Below W.heap.size W w') := by rw [hS]; exact fun W h1 h2 => rsame_any D E HDL.out HEL.out 500 _ _ W h1 h2
  have HSM : Hid (S.1 = true → hasL D H = hasL E H) := fun h => same_has D E 500 H (by rw [← hS]; exact h)
  have D3 : Hid (∀ W, Sl W (.slice oa k ca) D → Calls Try.prog 10 #[.slice oa k ca, .agg (hv H)] W fun e w' => e = .returned (.bool (hasL D H)) ∧ Below W.heap.size W w') := fun W h => chas_any D H HH.out HDL.out _ W h
  have D4 : Hid (∀ W, Sl W (.slice ob l cb) E → Calls Try.prog 10 #[.slice ob l cb, .agg (hv H)] W fun e w' => e = .returned (.bool (hasL E H)) ∧ Below W.heap.size W w') := fun W h => chas_any E H HH.out HEL.out _ W h
  obtain ⟨x, y⟩ := S
  have hyy : (y != y) = false := by simp
  clear hS
  go_wp2_with (first
    | (refine wl_min rfl _ _ rfl na k rfl rfl HKM.out ?_)
    | (refine wl_min rfl _ _ rfl nb l rfl rfl HLM.out ?_))
  clear HKM HLM hkn hln hca hcb
  refine (D1.out _ HA1.out HB1.out).mono ?_
  rintro e w2 ⟨rfl, hb2⟩
  have g2 : w2.heap[w.heap.size]? = some (.cells (hv H) 24 (0, 0)) := by rw [hb2.block _ (Array.getElem?_eq_some_iff.1 g0).1]; exact g0
  have B2 := B1.trans (hb2.mono B1.size)
  have HA2 : Hid (Sl w2 (.slice oa k ca) D) := HA1.out.below hb2
  have HB2 : Hid (Sl w2 (.slice ob l cb) E) := HB1.out.below hb2
  clear hb2 D1 g0 B1 HA1 HB1
  go_wp2_with fail
  refine (D2.out _ HA2.out HB2.out).mono ?_
  rintro e w3 ⟨rfl, hb3⟩
  have g3 : w3.heap[w.heap.size]? = some (.cells (hv H) 24 (0, 0)) := by rw [hb3.block _ (Array.getElem?_eq_some_iff.1 g2).1]; exact g2
  have B3 := B2.trans (hb3.mono B2.size)
  have HA3 : Hid (Sl w3 (.slice oa k ca) D) := HA2.out.below hb3
  have HB3 : Hid (Sl w3 (.slice ob l cb) E) := HB2.out.below hb3
  clear hb3 D2 g2 B2 HA2 HB2
  go_wp2_with fail
  have ne1 := Later.ne w3
  refine region_cut (fun a a' w' => ∃ y39 y40 y41 y42 y43 y44 y45 y46 y47 y48 y49 y50 y51 y52 y53 y54 y55 y56 y57, a' = ((((((((((((((((((((a.put (some 39) y39).put (some 40) y40).put (some 41) y41).put (some 42) y42).put (some 43) y43).put (some 44) y44).put (some 45) y45).put (some 46) y46).put (some 47) y47).put (some 48) y48).put (some 49) y49).put (some 50) y50).put (some 51) y51).put (some 52) y52).put (some 53) y53).put (some 54) y54).put (some 55) y55).put (some 56) y56).put (some 57) y57).put (some 58) (.bool false)) ∧ Below w3.heap.size w3 w') ?_ ?_
  · cases x
    · refine wp_region_later (by kernel_rfl) (by kernel_rfl) ?_
      go_big_quiet_step (fail)
      go_big_quiet_step (fail)
      go_big_quiet_step (fail)
      go_big_quiet_step (fail)
      go_big_quiet_step (fail)
      go_big_quiet_step (fail)
      go_big_quiet_step (fail)
      go_big_quiet_step (fail)
      go_big_quiet_step (fail)
      go_big_quiet_step (fail)
      go_big_quiet_step (fail)
      go_big_quiet_step (fail)
      go_big_quiet_step (fail)
      go_big_quiet_step (fail)
      go_big_quiet_step (fail)
      go_big_quiet_step (fail)
      go_big_quiet_step (fail)
      go_big_quiet_step (fail)
      go_big_quiet_step (fail)
      go_big_quiet_step (fail)
      refine wpQuiet_nil ?_
      rintro w' ⟨u, rfl⟩
      simp only [Act.put, List.setIfInBounds_toArray, List.set_cons_succ, List.set_cons_zero]
      exact ⟨by first | rfl | trivial, _, _, _, _, _, _, _, _, _, _, _, _, _, _, _, _, _, _, _, rfl, u.below⟩
    · obtain ⟨s, hs⟩ : ∃ s, s = hasL E H := ⟨_, rfl⟩
      rw [HSM.out rfl, ← hs] at D3
      rw [← hs] at D4
      have hss : (s != s) = false := by simp
      clear hs
      refine wp_region_later (by kernel_rfl) (by kernel_rfl) ?_
      go_big_quiet_step (fail)
      go_big_quiet_step (fail)
      go_big_quiet_step (fail)
      go_big_quiet_step (fail)
      go_big_quiet_step (fail)
      go_big_quiet_step (fail)
      go_big_quiet_step (fail)
      go_big_quiet_step (fail)
      go_big_quiet_step (fail)
      go_big_quiet_step (fail)
      go_big_quiet_step (fail)
      go_big_quiet_step (fail)
      refine qlH rfl _ rfl w.heap.size rfl H g3 hHl ?_
      simp only [Act.put, List.setIfInBounds_toArray, List.set_cons_succ, List.set_cons_zero]
      go_big_quiet_want; go_big_quiet_op
      refine ⟨_, fun u => Calls.later_of (D3.out u.world (HA3.out.below u.below)), ?_⟩
      go_big_quiet_on
      go_big_quiet_step (fail)
      refine qlH rfl _ rfl w.heap.size rfl H g3 hHl ?_
      simp only [Act.put, List.setIfInBounds_toArray, List.set_cons_succ, List.set_cons_zero]
      go_big_quiet_want; go_big_quiet_op
      refine ⟨_, fun u => Calls.later_of (D4.out u.world (HB3.out.below u.below)), ?_⟩
      go_big_quiet_on
      go_big_quiet_step (fail)
      go_big_quiet_step (fail)
      go_big_quiet_step (fail)
      refine wpQuiet_nil ?_
      rintro w' ⟨u, rfl⟩
      exact ⟨by first | rfl | trivial, _, _, _, _, _, _, _, _, _, _, _, _, _, _, _, _, _, _, _, rfl, u.below⟩
  rintro a' w4 ⟨y39, y40, y41, y42, y43, y44, y45, y46, y47, y48, y49, y50, y51, y52, y53, y54, y55, y56, y57, rfl, hb4⟩
  simp only [Act.put, List.setIfInBounds_toArray, List.set_cons_succ, List.set_cons_zero]
  have B4 := B3.trans (hb4.mono B3.size)
  have HA4 : Hid (Sl w4 (.slice oa k ca) D) := HA3.out.below hb4
  clear hb4 B3 HA3 HB3 g3 D3 D4 HSM ne1 hyy
  obtain ⟨w0, hw0⟩ : ∃ W, W = w4.alloc (.cells #[] 30) := ⟨_, rfl⟩
  have own0 : w0.ownsRow w4.heap.size 30 26 (.slice (some ⟨w4.heap.size, 0, none⟩) 0 0) 0 [] := by
    rw [hw0]
    exact ⟨rfl, Or.inr ⟨w4.heap.size, 0, #[], rfl, Nat.le_refl _, heap_new _ _ _ rfl, Nat.le_refl _, by decide, rfl, rfl⟩⟩
  have b0' : Below w4.heap.size w4 w0 := by rw [hw0]; exact (Below.refl _ _).alloc (Nat.le_refl _) _
  have HD0 : Hid (D.drop k = []) := by show _ = _; rw [HDK.out, List.drop_length]
  have DS : Hid (∀ (u : Value) (W : World), Sl W (.slice oa k ca) D → Sl W u D.reverse → Calls Try.prog 22 #[.slice oa k ca, u, .int .i64 1000] W fun e w' => e = .returned (.tuple #[.bool (sameR D D.reverse 1000).1, .int .i64 (sameR D D.reverse 1000).2]) ∧ Below W.heap.size W w') := fun u W h1 h2 => csame_any D D.reverse HDL.out (by rw [List.length_reverse]; exact HDL.out) 1000 _ u W h1 h2
  have HBR : Hid (Byts D.reverse) := fun c hc => HA4.out.byts c (by simpa using hc)
  have HSO : Hid (sameR D D.reverse 1000 = (true, 0) ∨ sameR D D.reverse 1000 = (false, 4)) := same_own D 1000
  go_wp2_with fail
  rw [← hw0]
  clear hw0
  go_loopw [11, 12] (fun bk i wr => ∃ x : Nat, x ≤ k ∧ i = .int .i64 ((x : Int) - 1) ∧ wr.ownsRow w4.heap.size 30 26 bk (D.drop x).reverse.length (ccells (D.drop x).reverse) ∧ Below w4.heap.size w4 wr) (fun _ i _ => (intOf i + 1).toNat)
  case atStart => exact ⟨k, Nat.le_refl _, rfl, by rw [HD0.out]; exact own0, b0'⟩
  case round =>
    clear own0 b0' HD0
    obtain ⟨x, hx, rfl, hown, hb⟩ := hrel
    have zo := hb.size
    have HA5 : Hid (Sl wr (.slice oa k ca) D) := HA4.out.below hb
    by_cases hx0 : 0 < x
    · obtain ⟨x', rfl⟩ : ∃ x', x = x' + 1 := ⟨x - 1, by omega⟩
      rw [show ((x' + 1 : Nat) : Int) - 1 = (x' : Int) by omega]
      obtain ⟨g, off, cur, t, fr, U, N, rfl, hg, hcc, hCk, hU, hN⟩ := HA5.out.at x' (by omega)
      have hUl := hU.1
      have hNl := hN.1
      have HE : Hid (∀ i, i < 26 → cur[off + x' * 26 + i]? = (cv U N)[i]?) := hcc
      have HRV : Hid ((D.drop x').reverse = (D.drop (x' + 1)).reverse ++ [(U, N)]) := by
        show _ = _
        obtain ⟨h1, h2⟩ := List.getElem?_eq_some_iff.1 hCk
        rw [List.drop_eq_getElem_cons h1, h2, List.reverse_cons]
      have hdl : (D.drop (x' + 1)).reverse.length ≤ 40 := by rw [List.length_reverse, List.length_drop, ← HDK.out]; omega
      obtain ⟨DE, hDE⟩ : ∃ DE, DE = (D.drop (x' + 1)).reverse := ⟨_, rfl⟩
      rw [← hDE] at hown hdl HRV
      have OWN : Hid (wr.ownsRow w4.heap.size 30 26 u11 DE.length (ccells DE)) := hown
      have hcl : (cv U N).toList.length = 1 * 26 := by rw [Array.length_toList, cv_size _ _ hUl hNl]
      have hco : ∀ u ∈ (cv U N).toList, u.oneCell' = true := fun u hu => (Array.all_eq_true_iff_forall_mem.1 (cv_one U N)) u (by simpa using hu)
      obtain ⟨i0, hi0, hz0', hz1', hz2'⟩ := infoC
      clear hcc hCk hU hN hDE hown
      go_wp2_with (first
        | (refine wl_loadCat rfl _ rfl g (off + x' * 26) rfl cur t fr U N hUl hNl hg HE.out ?_)
        | (refine wl_build1 rfl _ rfl U N hUl hNl rfl ?_)
        | (at_builtin; refine of_stopped ?_))
      unfold Stopped
      refine wpList_append_own _ rfl _ _ 22 rfl w4.heap.size 30 i0 (.agg zeroC) 26 26 Try.underlying22 hi0 hz0' hz1' hz2' rfl (by decide) _ _ _ rfl (OWN.out.alloc _) ⟨wr.heap.size, 0, none⟩ 1 1 (cv U N).toList rfl hcl (cells_new wr _ _) hco (by unfold maxLen; omega) (by omega) (by simp; omega) ?_
      intro v' w7 hown' hgrow7 hnil7
      have B7 : Below w4.heap.size w4 w7 := (hb.alloc zo _).grown hgrow7 (by simp; omega) (fun q hq => (OWN.out.lt q hq).1)
      have OWN7 : Hid (w7.ownsRow w4.heap.size 30 26 v' (D.drop x').reverse.length (ccells (D.drop x').reverse)) := by
        show World.ownsRow _ _ _ _ _ _ _
        rw [HRV.out, ccells_append, ccells_one, List.length_append]; exact hown'
      clear hown' hgrow7 hnil7 hcl hco hi0 hz0' hz1' hz2' hg
      simp only [Act.put, List.setIfInBounds_toArray, List.set_cons_succ, List.set_cons_zero]
      go_wp2_with fail
      go_roundw
      case rel => exact ⟨x', by omega, by go_num, OWN7.out, B7⟩
      case measure => simp [intOf]
    · obtain rfl : x = 0 := by omega
      have HSB : Hid (Sl wr u11 D.reverse) := sl_of hown HBR.out
      have B5 := B4.trans (hb.mono B4.size)
      clear hown hb
      go_wp2_with fail
      refine (DS.out _ _ HA5.out HSB.out).mono ?_
      rintro e w8 ⟨rfl, hb8⟩
      have B8 := B5.trans (hb8.mono B5.size)
      clear hb8 DS
      rcases HSO.out with h | h
      · rw [h]
        clear h HSO
        go_wp2_with (first
          | go_skip)
        go_ret
        exact ⟨rfl, B8⟩
      · rw [h]
        clear h HSO
        go_wp2_with (first
          | go_skip)
        go_ret
        exact ⟨rfl, B8⟩
end Go.Proofs.Ytjlghkiplapodaa
