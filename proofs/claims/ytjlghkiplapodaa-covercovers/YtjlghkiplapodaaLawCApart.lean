import Derived.Test.YtjlghkiplapodaaMinSl
import Derived.Test.YtjlghkiplapodaaMeetHas
namespace Go.Proofs.Ytjlghkiplapodaa
open Go Go.RowKit

theorem cnt_zero (H : List Int) : ∀ C : List (List Int × List Int), (∀ c ∈ C, has c.1 c.2 H = false) → cnt H C = 0
  | [], _ => rfl
  | c :: C, h => by rw [cnt, h c (by simp), cnt_zero H C fun d hd => h d (by simp [hd])]; rfl
theorem apart_cnt (H : List Int) : ∀ C : List (List Int × List Int), Apart C → cnt H C ≤ 1
  | [], _ => Nat.zero_le _
  | c :: C, h => by
    have ih := apart_cnt H C fun i k U N U' N' hik h1 h2 => h (i + 1) (k + 1) U N U' N' (by omega) (by simpa using h1) (by simpa using h2)
    rw [cnt]
    cases hc : has c.1 c.2 H
    · simpa using ih
    · rw [cnt_zero H C fun d hd => ?_]
      · simp
      · cases hd2 : has d.1 d.2 H
        · rfl
        · obtain ⟨i, hi⟩ := List.getElem?_of_mem hd
          have := h 0 (i + 1) c.1 c.2 d.1 d.2 (by omega) rfl (by simpa using hi)
          rw [has_meets hc hd2] at this
          cases this
theorem cnt_at (H : List Int) {C : List (List Int × List Int)} {k : Nat} {U N : List Int} (hk : C[k]? = some (U, N)) : cnt H (C.take (k + 1)) = cnt H (C.take k) + if has U N H = true then 1 else 0 := by
  rw [List.take_add_one, hk, cnt_append]
  simp [cnt]

set_option maxHeartbeats 4000000 in
theorem lawApart_any (C : List (List Int × List Int)) (H : List Int) (hH : Byt H) (v : Value) (w : World) (hs : Sl w v C) :
    Calls Try.prog 4 #[v, .agg (hv H)] w fun e w' => e = .returned (.bool true) ∧ Below w.heap.size w w' := by
  obtain ⟨o, cap, rfl, hcap, hcm⟩ := hs.slice
  obtain ⟨n, hne⟩ : ∃ n, n = C.length := ⟨_, rfl⟩
  rw [← hne] at hs hcap ⊢
  have HS : Hid (Sl w (.slice o n cap) C) := hs
  have HN : Hid (n = C.length) := hne
  have hHl := hH.1
  have HH : Hid (Byt H) := hH
  clear hs hne hH hcm
  go_enter Try.func4, Try.ntmps4
  go_wp2_with fail
  refine (awake3_any _).mono ?_
  rintro e w1 ⟨rfl, hb1⟩
  have g0 : w1.heap[w.heap.size]? = some (.cells (hv H) 24 (0, 0)) := by rw [hb1.block _ (by simp)]; exact heap_new _ _ _ rfl
  have B1 : Below w.heap.size w w1 := ((Below.refl _ _).alloc (Nat.le_refl _) _).trans (hb1.mono (by simp))
  clear hb1
  obtain ⟨k, hk⟩ : ∃ k, k = min n 40 := ⟨_, rfl⟩
  have hkn : k ≤ n := by omega
  have hk40 : k ≤ 40 := by omega
  have hkc : k ≤ cap := by omega
  have HKM : Hid (k = min n 40) := hk
  have HS1 : Hid (Sl w1 (.slice o k cap) (C.take k)) := (HS.out.below B1).cut k hk
  have HDL : Hid (k = (C.take k).length) := HS1.out.len.1
  obtain ⟨D, hD⟩ : ∃ D, D = C.take k := ⟨_, rfl⟩
  rw [← hD] at HS1 HDL
  have D3 : Hid (∀ W, Sl W (.slice o k cap) D → Calls Try.prog 12 #[.slice o k cap] W fun e w' => e = .returned (.bool (apartL D)) ∧ Below W.heap.size W w') := fun W h => apart_any _ (by rw [hD]; exact cut_len hk40) _ W h
  clear hk hD HS HN
  go_wp2_with (first
    | (refine wl_min rfl _ _ rfl n k rfl rfl HKM.out ?_))
  clear HKM hkn hcap
  go_loopw [5, 6] (fun c i wr => ∃ j : Nat, j ≤ k ∧ i = .int .i64 j ∧ c = .int .i64 ((cnt H (D.take j) : Nat) : Int) ∧ wr.heap[w.heap.size]? = some (.cells (hv H) 24 (0, 0)) ∧ Below w1.heap.size w1 wr) (fun _ i _ => k - (intOf i).toNat)
  case atStart => exact ⟨0, Nat.zero_le _, rfl, rfl, g0, Below.refl _ _⟩
  case round =>
    clear g0
    obtain ⟨j, hj, rfl, rfl, g0, hb⟩ := hrel
    have hB2 := B1.trans (hb.mono B1.size)
    obtain ⟨c, hc⟩ : ∃ c, c = cnt H (D.take j) := ⟨_, rfl⟩
    have hcj : c ≤ j := by rw [hc]; exact Nat.le_trans (cnt_le H _) (by simp; omega)
    have HCN : Hid (c = cnt H (D.take j)) := hc
    rw [← hc]
    clear hc
    by_cases hlt : j < k
    · obtain ⟨g, off, cur, t, fr, U, N, rfl, hg, hcc, hCk, hU, hN⟩ := HS1.out.at j hlt
      have hUl := hU.1
      have hNl := hN.1
      have hg' : wr.heap[g]? = some (.cells cur t fr) := (hb.block g (Array.getElem?_eq_some_iff.1 hg).1).trans hg
      have HE : Hid (∀ i, i < 26 → cur[off + j * 26 + i]? = (cv U N)[i]?) := hcc
      have D1 : Hid (∀ W, Calls Try.prog 14 #[.agg (cv U N), .agg (hv H)] W fun e w' => e = .returned (.bool (has U N H)) ∧ Below W.heap.size W w') := has_any U N H hU hN HH.out
      have HCT : Hid (cnt H (D.take (j + 1)) = c + if has U N H = true then 1 else 0) := by show _ = _; rw [HCN.out]; exact cnt_at H hCk
      obtain ⟨b, hbb⟩ : ∃ b, b = has U N H := ⟨_, rfl⟩
      rw [← hbb] at D1 HCT
      clear hg hcc hCk hU hN hbb
      go_wp2_with fail
      have ne1 := Later.ne wr
      refine wp_region_later (by kernel_rfl) (by kernel_rfl) ?_
      go_big_quiet_step (fail)
      go_big_quiet_step (fail)
      go_big_quiet_step (fail)
      refine qlSl rfl _ rfl g (off + j * 26) rfl cur t fr U N hUl hNl hg' HE.out ?_
      simp only [Act.put, List.setIfInBounds_toArray, List.set_cons_succ, List.set_cons_zero]
      refine qlH rfl _ rfl w.heap.size rfl H g0 hHl ?_
      simp only [Act.put, List.setIfInBounds_toArray, List.set_cons_succ, List.set_cons_zero]
      go_big_quiet_want; go_big_quiet_op
      refine ⟨_, fun u => Calls.later_of (D1.out u.world), ?_⟩
      go_big_quiet_on
      refine wpQuiet_nil ?_
      rintro w' ⟨u, rfl⟩
      have hb3 := hb.trans (u.below.mono hb.size)
      have g1 := later_block g0 _ ⟨u, rfl⟩
      clear ne1 D1 hb hg' g0
      cases b
      · go_wp2_with fail
        go_roundw
        case rel => exact ⟨j + 1, by omega, by go_num, by rw [HCT.out]; simp, g1, hb3⟩
        case measure => simp [intOf]; omega
      · go_wp2_with fail
        go_roundw
        case rel => exact ⟨j + 1, by omega, by go_num, by rw [HCT.out]; simp, g1, hb3⟩
        case measure => simp [intOf]; omega
    · obtain rfl : j = k := by omega
      have HCD : Hid (c = cnt H D) := by
        have := HCN.out
        rw [HDL.out, List.take_length] at this
        exact this
      have HS2 : Hid (Sl wr (.slice o j cap) D) := HS1.out.below hb
      by_cases h1 : c ≤ 1
      · go_wp2_with fail
        go_ret
        exact ⟨rfl, hB2⟩
      · have hap : apartL D = false := by
          cases h : apartL D
          · rfl
          · have := apart_cnt H D (apartL_iff.1 h)
            have := HCD.out
            omega
        rw [hap] at D3
        have h2 : 1 < c := by omega
        clear hap
        go_wp2_with fail
        refine (D3.out _ HS2.out).mono ?_
        rintro e w4 ⟨rfl, hb4⟩
        go_wp2_with fail
        go_ret
        exact ⟨rfl, hB2.trans (hb4.mono hB2.size)⟩
end Go.Proofs.Ytjlghkiplapodaa
