import Derived.Test.YtjlghkiplapodaaLawCApart
namespace Go.Proofs.Ytjlghkiplapodaa
open Go Go.RowKit

theorem cnt_minusL (H : List Int) (b : List Int × List Int) : ∀ P : List (List Int × List Int), cnt H (minusL P b) = if has b.1 b.2 H = true then 0 else cnt H P
  | [] => by simp [minusL, cnt]
  | p :: P => by
    have ih := cnt_minusL H b P
    rw [show minusL (p :: P) b = minusC p.1 p.2 b.1 b.2 ++ minusL P b by simp [minusL], cnt_append, ih, cnt_minus, cnt]
    cases has p.1 p.2 H <;> cases has b.1 b.2 H <;> simp
theorem cnt_leftGo (H : List Int) (most : Nat) : ∀ (L P R : List (List Int × List Int)), leftGo most P L = some R → cnt H R = if hasL L H = true then 0 else cnt H P
  | [], P, R, h => by
    have : P = R := by simpa [leftGo] using h
    rw [this]; simp [hasL]
  | b :: L, P, R, h => by
    rw [leftGo] at h
    split at h
    · cases h
    · rw [cnt_leftGo H most L _ R h, cnt_minusL]
      have : hasL (b :: L) H = (has b.1 b.2 H || hasL L H) := by simp [hasL]
      rw [this]
      cases has b.1 b.2 H <;> cases hasL L H <;> simp
theorem cnt_leftC (H V M : List Int) (L R : List (List Int × List Int)) (most : Nat) (h : leftC V M L most = some R) : cnt H R = if (has V M H && !(hasL L H)) = true then 1 else 0 := by
  unfold leftC at h
  split at h
  · cases h
  · rw [cnt_leftGo H most L _ R h, cnt, cnt, has_can']
    cases has V M H <;> cases hasL L H <;> simp

set_option maxHeartbeats 4000000 in
theorem lawPieces_any (V M : List Int) (hV : Byt V) (hM : Byt M) (C : List (List Int × List Int)) (H : List Int) (hH : Byt H) (v : Value) (w : World) (hs : Sl w v C) :
    Calls Try.prog 6 #[.agg (cv V M), v, .agg (hv H)] w fun e w' => e = .returned (.bool true) ∧ Below w.heap.size w w' := by
  obtain ⟨o, cap, rfl, hcap, hcm⟩ := hs.slice
  obtain ⟨n, hne⟩ : ∃ n, n = C.length := ⟨_, rfl⟩
  rw [← hne] at hs hcap ⊢
  have HS : Hid (Sl w (.slice o n cap) C) := hs
  have hVl := hV.1
  have hMl := hM.1
  have hHl := hH.1
  have HVM : Hid (Byt V ∧ Byt M ∧ Byt H) := ⟨hV, hM, hH⟩
  clear hs hne hV hM hcm hH
  go_enter Try.func6, Try.ntmps6
  go_wp2_with fail
  refine (awake3_any _).mono ?_
  rintro e w1 ⟨rfl, hb1⟩
  have g0 : w1.heap[w.heap.size]? = some (.cells (cv V M) 30 (0, 0)) := by rw [hb1.block _ (by simp; omega)]; exact heap_past _ _ _ _ (heap_new _ _ _ rfl)
  have g1 : w1.heap[w.heap.size + 1]? = some (.cells (hv H) 24 (0, 0)) := by rw [hb1.block _ (by simp)]; exact heap_new _ _ _ (by simp)
  have B1 : Below w.heap.size w w1 := (((Below.refl _ _).alloc (Nat.le_refl _) _).alloc (by simp) _).trans (hb1.mono (by simp; omega))
  clear hb1
  obtain ⟨k, hk⟩ : ∃ k, k = min n 40 := ⟨_, rfl⟩
  have hkn : k ≤ n := by omega
  have hk40 : k ≤ 40 := by omega
  have hkc : k ≤ cap := by omega
  have HKM : Hid (k = min n 40) := hk
  have HS1 : Hid (Sl w1 (.slice o k cap) (C.take k)) := (HS.out.below B1).cut k hk
  obtain ⟨D, hD⟩ : ∃ D, D = C.take k := ⟨_, rfl⟩
  have hDl : D.length ≤ 1000000 := by rw [hD]; exact cut_len hk40
  rw [← hD] at HS1
  have HDL : Hid (D.length ≤ 1000000) := hDl
  clear hk hD HS hDl
  cases hR : leftC V M D (bnd 1000) with
  | none =>
    have D1 : Hid (∀ W, Sl W (.slice o k cap) D → Calls Try.prog 15 #[.agg (cv V M), .slice o k cap, .int .i64 1000] W fun e w' => e = .returned (.tuple #[.slice none 0 0, .int .i64 4]) ∧ Below W.heap.size W w') := fun W h => left_none HVM.out.1 HVM.out.2.1 HDL.out hR _ W h
    clear hR
    go_wp2_with (first
      | (refine wl_min rfl _ _ rfl n k rfl rfl HKM.out ?_)
      | (refine wl_loadC rfl _ rfl w.heap.size rfl V M g0 hVl hMl ?_))
    refine (D1.out _ HS1.out).mono ?_
    rintro e w2 ⟨rfl, hb2⟩
    go_wp2_with fail
    go_ret
    exact ⟨rfl, B1.trans (hb2.mono B1.size)⟩
  | some R =>
    have D1 : Hid (∀ W, Sl W (.slice o k cap) D → Calls Try.prog 15 #[.agg (cv V M), .slice o k cap, .int .i64 1000] W fun e w' => ∃ u, e = .returned (.tuple #[u, .int .i64 0]) ∧ Sl w' u R ∧ R.length ≤ 1000 ∧ Below W.heap.size W w') := fun W h => left_some HVM.out.1 HVM.out.2.1 HDL.out hR _ W h
    have HCR : Hid (cnt H R = if (has V M H && !(hasL D H)) = true then 1 else 0) := cnt_leftC H V M D R _ hR
    have D4 : Hid (∀ W, Calls Try.prog 14 #[.agg (cv V M), .agg (hv H)] W fun e w' => e = .returned (.bool (has V M H)) ∧ Below W.heap.size W w') := has_any V M H HVM.out.1 HVM.out.2.1 HVM.out.2.2
    have D5 : Hid (∀ W, Sl W (.slice o k cap) D → Calls Try.prog 10 #[.slice o k cap, .agg (hv H)] W fun e w' => e = .returned (.bool (hasL D H)) ∧ Below W.heap.size W w') := fun W h => chas_any D H HVM.out.2.2 HDL.out _ W h
    obtain ⟨x, hx⟩ : ∃ x, x = has V M H := ⟨_, rfl⟩
    obtain ⟨y, hy⟩ : ∃ y, y = hasL D H := ⟨_, rfl⟩
    rw [← hx] at D4 HCR
    rw [← hy] at D5 HCR
    clear hR hx hy
    go_wp2_with (first
      | (refine wl_min rfl _ _ rfl n k rfl rfl HKM.out ?_)
      | (refine wl_loadC rfl _ rfl w.heap.size rfl V M g0 hVl hMl ?_))
    refine (D1.out _ HS1.out).mono ?_
    rintro e w2 ⟨u, rfl, hsl, hrl, hb2⟩
    have z1 := (Array.getElem?_eq_some_iff.1 g1).1
    have p0 : w2.heap[w.heap.size]? = some (.cells (cv V M) 30 (0, 0)) := by rw [hb2.block _ (by omega)]; exact g0
    have p1 : w2.heap[w.heap.size + 1]? = some (.cells (hv H) 24 (0, 0)) := by rw [hb2.block _ (by omega)]; exact g1
    have B2 := B1.trans (hb2.mono B1.size)
    have HS2 : Hid (Sl w2 (.slice o k cap) D) := HS1.out.below hb2
    obtain ⟨ro, rcap, rfl, _, _⟩ := hsl.slice
    obtain ⟨rn, hrn⟩ : ∃ rn, rn = R.length := ⟨_, rfl⟩
    have HRN : Hid (rn = R.length) := hrn
    rw [← hrn] at hsl hrl ⊢
    have HSR : Hid (Sl w2 (.slice ro rn rcap) R) := hsl
    clear hb2 hsl hrn D1 g0 g1 B1 HS1 HKM hkn hcap
    go_wp2_with fail
    go_loopw [9, 10] (fun c i wr => ∃ j : Nat, j ≤ rn ∧ i = .int .i64 j ∧ c = .int .i64 ((cnt H (R.take j) : Nat) : Int) ∧ Below w2.heap.size w2 wr) (fun _ i _ => rn - (intOf i).toNat)
    case atStart => exact ⟨0, Nat.zero_le _, rfl, rfl, Below.refl _ _⟩
    case round =>
      obtain ⟨j, hj, rfl, rfl, hb⟩ := hrel
      have z2 := (Array.getElem?_eq_some_iff.1 p1).1
      have q0 : wr.heap[w.heap.size]? = some (.cells (cv V M) 30 (0, 0)) := by rw [hb.block _ (by omega)]; exact p0
      have q1 : wr.heap[w.heap.size + 1]? = some (.cells (hv H) 24 (0, 0)) := by rw [hb.block _ (by omega)]; exact p1
      have hB2 := B2.trans (hb.mono B2.size)
      obtain ⟨c, hc⟩ : ∃ c, c = cnt H (R.take j) := ⟨_, rfl⟩
      have hcj : c ≤ j := by rw [hc]; exact Nat.le_trans (cnt_le H _) (by simp; omega)
      have HCN : Hid (c = cnt H (R.take j)) := hc
      rw [← hc]
      clear hc
      by_cases hlt : j < rn
      · obtain ⟨g, off, cur, t, fr, U, N, rfl, hg, hcc, hCk, hU, hN⟩ := HSR.out.at j hlt
        have hUl := hU.1
        have hNl := hN.1
        have hg' : wr.heap[g]? = some (.cells cur t fr) := (hb.block g (Array.getElem?_eq_some_iff.1 hg).1).trans hg
        have HE : Hid (∀ i, i < 26 → cur[off + j * 26 + i]? = (cv U N)[i]?) := hcc
        have D1 : Hid (∀ W, Calls Try.prog 14 #[.agg (cv U N), .agg (hv H)] W fun e w' => e = .returned (.bool (has U N H)) ∧ Below W.heap.size W w') := has_any U N H hU hN HVM.out.2.2
        have HCT : Hid (cnt H (R.take (j + 1)) = c + if has U N H = true then 1 else 0) := by show _ = _; rw [HCN.out]; exact cnt_at H hCk
        obtain ⟨b, hbb⟩ : ∃ b, b = has U N H := ⟨_, rfl⟩
        rw [← hbb] at D1 HCT
        clear hg hcc hCk hU hN hbb
        go_wp2_with fail
        have ne1 := Later.ne wr
        refine wp_region_later (by kernel_rfl) (by kernel_rfl) ?_
        go_big_quiet_step (fail)
        go_big_quiet_step (fail)
        go_big_quiet_step (fail)
        refine qlSl rfl _ rfl g (off + j * 26) rfl cur t fr U N hUl hNl hg' HE.out ?_
        simp only [Act.put, List.setIfInBounds_toArray, List.set_cons_succ, List.set_cons_zero]
        refine qlH rfl _ rfl (w.heap.size + 1) rfl H q1 hHl ?_
        simp only [Act.put, List.setIfInBounds_toArray, List.set_cons_succ, List.set_cons_zero]
        go_big_quiet_want; go_big_quiet_op
        refine ⟨_, fun u => Calls.later_of (D1.out u.world), ?_⟩
        go_big_quiet_on
        refine wpQuiet_nil ?_
        rintro w' ⟨u, rfl⟩
        have hb3 := hb.trans (u.below.mono hb.size)
        clear ne1 D1 hb hg' q0 q1
        cases b
        · go_wp2_with fail
          go_roundw
          case rel => exact ⟨j + 1, by omega, by go_num, by rw [HCT.out]; simp, hb3⟩
          case measure => simp [intOf]; omega
        · go_wp2_with fail
          go_roundw
          case rel => exact ⟨j + 1, by omega, by go_num, by rw [HCT.out]; simp, hb3⟩
          case measure => simp [intOf]; omega
      · obtain rfl : j = rn := by omega
        have HCD : Hid (c = if (x && !y) = true then 1 else 0) := by
          have := HCN.out
          rw [HRN.out, List.take_length, HCR.out] at this
          exact this
        have HS3 : Hid (Sl wr (.slice o k cap) D) := HS2.out.below hb
        clear p0 p1 hb hcj HCN HS2 HCR
        go_wp2_with (first
          | (refine wl_loadC rfl _ rfl w.heap.size rfl V M q0 hVl hMl ?_)
          | (refine wl_load26 rfl _ rfl (w.heap.size + 1) rfl H q1 hHl ?_))
        refine (D4.out _).mono ?_
        rintro e w4 ⟨rfl, hb4⟩
        have r1 : w4.heap[w.heap.size + 1]? = some (.cells (hv H) 24 (0, 0)) := by rw [hb4.block _ (Array.getElem?_eq_some_iff.1 q1).1]; exact q1
        have B4 := hB2.trans (hb4.mono hB2.size)
        have HS4 : Hid (Sl w4 (.slice o k cap) D) := HS3.out.below hb4
        clear hb4 D4 q0 q1 HS3
        cases x
        · obtain rfl : c = 0 := by have := HCD.out; simpa using this
          clear HCD
          go_wp2_with fail
          go_ret
          exact ⟨rfl, B4⟩
        · go_wp2_with (first
            | (refine wl_loadHg rfl _ rfl (w.heap.size + 1) rfl H r1 hHl ?_))
          refine (D5.out _ HS4.out).mono ?_
          rintro e w5 ⟨rfl, hb5⟩
          have B5 := B4.trans (hb5.mono B4.size)
          clear hb5 D5 r1 HS4
          cases y
          · obtain rfl : c = 1 := by have := HCD.out; simpa using this
            clear HCD
            go_wp2_with fail
            go_ret
            exact ⟨rfl, B5⟩
          · obtain rfl : c = 0 := by have := HCD.out; simpa using this
            clear HCD
            go_wp2_with fail
            go_ret
            exact ⟨rfl, B5⟩
end Go.Proofs.Ytjlghkiplapodaa
