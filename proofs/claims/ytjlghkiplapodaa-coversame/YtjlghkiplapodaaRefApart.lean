import Derived.Test.YtjlghkiplapodaaCovApart
import Derived.Test.YtjlghkiplapodaaOrders
namespace Go.Proofs.Ytjlghkiplapodaa
open Go Go.RowKit

set_option maxHeartbeats 4000000 in
theorem rapart_any (C : List (List Int × List Int)) (hn : C.length ≤ 1000000) (v : Value) (w : World) (hs : Sl w v C) :
    Calls Try.prog 13 #[v] w fun e w' => e = .returned (.bool (apartL C)) ∧ Below w.heap.size w w' := by
  obtain ⟨o, cap, rfl, _, _⟩ := hs.slice
  obtain ⟨n, hne⟩ : ∃ n, n = C.length := ⟨_, rfl⟩
  rw [← hne] at hs hn ⊢
  have HN : Hid (n = C.length) := hne
  have HS : Hid (Sl w (.slice o n cap) C) := hs
  clear hs hne
  go_enter Try.func13, Try.ntmps13
  go_wp2_with fail
  go_loopw [3] (fun i wr => ∃ k : Nat, k ≤ n ∧ i = .int .i64 k ∧ (∀ (i' k' : Nat) (U N U' N' : List Int), i' < k → i' < k' → C[i']? = some (U, N) → C[k']? = some (U', N') → meets U N U' N' = false) ∧ Below w.heap.size w wr) (fun i _ => n - (intOf i).toNat)
  case atStart => exact ⟨0, Nat.zero_le _, rfl, fun i' k' U N U' N' h => by omega, Below.refl _ _⟩
  case round =>
    obtain ⟨k, hk, rfl, hp, hb⟩ := hrel
    have HP : Hid (∀ (i' k' : Nat) (U N U' N' : List Int), i' < k → i' < k' → C[i']? = some (U, N) → C[k']? = some (U', N') → meets U N U' N' = false) := hp
    clear hp
    by_cases hlt : k < n
    · obtain ⟨g, off, cur, t, fr, U, N, rfl, hg, hc, hCk, hU, hN⟩ := HS.out.at k hlt
      have hUl := hU.1
      have hNl := hN.1
      have HU : Hid (Byt U ∧ Byt N) := ⟨hU, hN⟩
      have HG : Hid (w.heap[g]? = some (.cells cur t fr)) := hg
      have HC : Hid (∀ j, j < 26 → cur[off + k * 26 + j]? = (cv U N)[j]?) := hc
      have HK : Hid (C[k]? = some (U, N)) := hCk
      clear hg hc hCk hU hN
      go_wp2_with fail
      go_loopw [4] (fun j wq => ∃ m : Nat, m ≤ n ∧ k < m ∧ j = .int .i64 m ∧ (∀ m' : Nat, k < m' → m' < m → ∀ U' N' : List Int, C[m']? = some (U', N') → meets U N U' N' = false) ∧ Below w.heap.size w wq) (fun j _ => n - (intOf j).toNat)
      case atStart => exact ⟨k + 1, by omega, by omega, by go_num, fun m' h1 h2 => by omega, hb⟩
      case round =>
        clear hb
        obtain ⟨m, hm, hkm, rfl, hq, hb⟩ := hrel
        have HQ : Hid (∀ m' : Nat, k < m' → m' < m → ∀ U' N' : List Int, C[m']? = some (U', N') → meets U N U' N' = false) := hq
        clear hq
        by_cases hml : m < n
        · obtain ⟨g2, off2, cur2, t2, fr2, U2, N2, ho2, hg2, hc2, hCm, hU2, hN2⟩ := HS.out.at m hml
          simp only [Option.some.injEq, Addr.mk.injEq, and_true] at ho2
          obtain ⟨rfl, rfl⟩ := ho2
          have hUl2 := hU2.1
          have hNl2 := hN2.1
          obtain ⟨A, B, hA, hB, hAB⟩ := meetR_form U N U2 N2
          have D1 : Hid (∀ W, Calls Try.prog 28 #[.agg (cv U N), .agg (cv U2 N2)] W fun e w' => e = .returned (.tuple #[.agg (cv A B), .bool (meets U N U2 N2)]) ∧ Below W.heap.size W w') := by
            have := rmeet_any U N U2 N2 HU.out.1 HU.out.2 hU2 hN2; rwa [hAB] at this
          have hg1' : wr.heap[g]? = some (.cells cur t fr) := (hb.block g (Array.getElem?_eq_some_iff.1 HG.out).1).trans HG.out
          have hg2' : wr.heap[g]? = some (.cells cur2 t2 fr2) := (hb.block g (Array.getElem?_eq_some_iff.1 hg2).1).trans hg2
          have HC2 : Hid (∀ j, j < 26 → cur2[off + m * 26 + j]? = (cv U2 N2)[j]?) := hc2
          have HM : Hid (C[m]? = some (U2, N2)) := hCm
          obtain ⟨b, hbb⟩ : ∃ b, b = meets U N U2 N2 := ⟨_, rfl⟩
          have HB : Hid (b = meets U N U2 N2) := hbb
          rw [← hbb] at D1
          clear hg2 hc2 hCm hU2 hN2 hbb hAB
          go_wp2_with fail
          have ne1 := Later.ne wr
          refine region_cut (fun a a' w' => ∃ y5 y21 y22 y23 y24 y25 y26 y27 y28 y29 y30 y31 y32, a' = ((((((((((((((a.put (some 5) y5).put (some 6) (.bool b)).put (some 21) y21).put (some 22) y22).put (some 23) y23).put (some 24) y24).put (some 25) y25).put (some 26) y26).put (some 27) y27).put (some 28) y28).put (some 29) y29).put (some 30) y30).put (some 31) y31).put (some 32) y32) ∧ Below wr.heap.size wr w') ?_ ?_
          · refine region_begin 15 rfl (by kernel_rfl) ?_
            refine region_reads 0 8 7 rfl (by kernel_rfl) (by kernel_rfl) (by kernel_rfl) (by intro d v c a w h; exact absurd h.1 (by simp)) ⟨⟨wr.drew, (Below.refl _ _).drew⟩, rfl⟩ ?_
            simp only [List.drop_zero, List.take_succ_cons, List.take_zero]
            go_big_quiet_step (fail)
            go_big_quiet_step (fail)
            go_big_quiet_step (fail)
            refine qlSl rfl _ rfl g (off + k * 26) rfl cur t fr U N hUl hNl hg1' HC.out ?_
            simp only [Act.put, List.setIfInBounds_toArray, List.set_cons_succ, List.set_cons_zero]
            go_big_quiet_step (fail)
            go_big_quiet_step (fail)
            go_big_quiet_step (fail)
            refine qlSl rfl _ rfl g (off + m * 26) rfl cur2 t2 fr2 U2 N2 hUl2 hNl2 hg2' HC2.out ?_
            simp only [Act.put, List.setIfInBounds_toArray, List.set_cons_succ, List.set_cons_zero]
            refine wpQuiet_nil ?_
            refine wpAnyH_all (rs := [8, 12]) (by kernel_rfl) (by decide) ?_
            intro i hi
            simp only [List.mem_cons, List.not_mem_nil, or_false] at hi
            rcases hi with rfl | rfl
            · refine wpOp_call rfl rfl 28 #[.tmp 25, .tmp 29] (by intro b w; have hf := Try.func28; simp [go_sem]) #[.agg (cv U N), .agg (cv U2 N2)] rfl (fun v w' => v = .tuple #[.agg (cv A B), .bool b] ∧ Below wr.drew.heap.size wr.drew w') ((D1.out _).mono fun e w' h => ⟨_, h.1, rfl, h.2⟩) (some 30) rfl ?_
              rintro v w2 ⟨rfl, hb2⟩
              have hW2 : Below wr.heap.size wr w2 := (Below.refl _ _).drew.trans hb2
              refine ⟨⟨⟨w2, hW2⟩, rfl⟩, ?_⟩
              simp only [Act.put, List.setIfInBounds_toArray, List.set_cons_succ, List.set_cons_zero]
              refine region_reads 9 3 3 rfl (by kernel_rfl) (by kernel_rfl) (by kernel_rfl) (by intro d v c a w h; exact absurd h.1 (by simp)) ⟨⟨w2, hW2⟩, rfl⟩ ?_
              simp only [List.drop_succ_cons, List.drop_zero, List.take_succ_cons, List.take_zero]
              repeat go_big_quiet_step (fail)
              refine wpQuiet_nil ?_
              refine wpAnyH_all (rs := [12]) (by kernel_rfl) (by decide) ?_
              intro i hi
              obtain rfl := List.mem_singleton.1 hi
              refine wpOp_allocC rfl rfl rfl (some 5) rfl ?_
              refine ⟨⟨⟨w2.alloc _, hW2.alloc hW2.size _⟩, rfl⟩, ?_⟩
              simp only [Act.put, List.setIfInBounds_toArray, List.set_cons_succ, List.set_cons_zero]
              refine wpAnyH_all (rs := [13]) (by kernel_rfl) (by decide) ?_
              intro i hi
              obtain rfl := List.mem_singleton.1 hi
              refine wpOp_storeC rfl rfl _ _ rfl w2.heap.size A B rfl rfl _ (heap_new _ _ _ rfl) rfl hA hB none rfl ?_
              rw [setRow_new _ _ _ _ _ rfl]
              refine ⟨⟨⟨w2.alloc _, hW2.alloc hW2.size _⟩, rfl⟩, ?_⟩
              refine wpAnyH_all (rs := [14]) (by kernel_rfl) (by decide) ?_
              intro i hi
              obtain rfl := List.mem_singleton.1 hi
              refine wpOp_assign rfl rfl _ rfl (.bool b) rfl (some 6) rfl ?_
              refine ⟨⟨⟨w2.alloc _, hW2.alloc hW2.size _⟩, rfl⟩, ?_⟩
              refine wpAnyH_done (by kernel_rfl) ?_ _
              exact ⟨rfl, _, _, _, _, _, _, _, _, _, _, _, _, _, rfl, hW2.alloc hW2.size _⟩
            · refine wpOp_allocC rfl rfl rfl (some 5) rfl ?_
              have hWA : Below wr.heap.size wr (wr.drew.alloc (.cells zeroC 30)) := (Below.refl _ _).drew.alloc (Nat.le_refl _) _
              refine ⟨⟨⟨_, hWA⟩, rfl⟩, ?_⟩
              simp only [Act.put, List.setIfInBounds_toArray, List.set_cons_succ, List.set_cons_zero]
              refine wpAnyH_all (rs := [8]) (by kernel_rfl) (by decide) ?_
              intro i hi
              obtain rfl := List.mem_singleton.1 hi
              refine wpOp_call rfl rfl 28 #[.tmp 25, .tmp 29] (by intro b w; have hf := Try.func28; simp [go_sem]) #[.agg (cv U N), .agg (cv U2 N2)] rfl (fun v w' => v = .tuple #[.agg (cv A B), .bool b] ∧ Below (wr.drew.alloc (.cells zeroC 30)).heap.size (wr.drew.alloc (.cells zeroC 30)) w') ((D1.out _).mono fun e w' h => ⟨_, h.1, rfl, h.2⟩) (some 30) rfl ?_
              rintro v w2 ⟨rfl, hb2⟩
              have hW2 : Below wr.heap.size wr w2 := hWA.trans (hb2.mono hWA.size)
              have hgA : w2.heap[wr.heap.size]? = some (.cells zeroC 30 (0, 0)) := by rw [hb2.block _ (by simp)]; exact heap_new _ _ _ rfl
              refine ⟨⟨⟨w2, hW2⟩, rfl⟩, ?_⟩
              simp only [Act.put, List.setIfInBounds_toArray, List.set_cons_succ, List.set_cons_zero]
              refine region_reads 9 3 2 rfl (by kernel_rfl) (by kernel_rfl) (by kernel_rfl) (by intro d v c a w h; exact absurd h.1 (by simp)) ⟨⟨w2, hW2⟩, rfl⟩ ?_
              simp only [List.drop_succ_cons, List.drop_zero, List.take_succ_cons, List.take_zero]
              repeat go_big_quiet_step (fail)
              refine wpQuiet_nil ?_
              refine wpAnyH_all (rs := [13]) (by kernel_rfl) (by decide) ?_
              intro i hi
              obtain rfl := List.mem_singleton.1 hi
              refine wpOp_storeC rfl rfl _ _ rfl wr.heap.size A B rfl rfl _ hgA rfl hA hB none rfl ?_
              refine ⟨⟨⟨_, below_setRow hW2 (Nat.le_refl _) _⟩, rfl⟩, ?_⟩
              refine wpAnyH_all (rs := [14]) (by kernel_rfl) (by decide) ?_
              intro i hi
              obtain rfl := List.mem_singleton.1 hi
              refine wpOp_assign rfl rfl _ rfl (.bool b) rfl (some 6) rfl ?_
              refine ⟨⟨⟨_, below_setRow hW2 (Nat.le_refl _) _⟩, rfl⟩, ?_⟩
              refine wpAnyH_done (by kernel_rfl) ?_ _
              exact ⟨rfl, _, _, _, _, _, _, _, _, _, _, _, _, _, rfl, below_setRow hW2 (Nat.le_refl _) _⟩
          · rintro a' w' ⟨y5, y21, y22, y23, y24, y25, y26, y27, y28, y29, y30, y31, y32, rfl, hbw⟩
            simp only [Act.put, List.setIfInBounds_toArray, List.set_cons_succ, List.set_cons_zero]
            have B2 := hb.trans (hbw.mono hb.size)
            clear hb hbw hg1' hg2' D1 ne1
            cases b
            · go_wp2_with fail
              go_roundw
              case rel =>
                refine ⟨m + 1, by omega, by omega, by go_num, fun m' h1 hm' U' N' he => ?_, B2⟩
                rcases Nat.lt_succ_iff_lt_or_eq.1 hm' with h | rfl
                · exact HQ.out m' h1 h U' N' he
                · have := he.symm.trans HM.out
                  simp only [Option.some.injEq, Prod.mk.injEq] at this
                  rw [this.1, this.2]; exact HB.out.symm
              case measure => simp [intOf]; omega
            · go_wp2_with fail
              go_ret
              refine ⟨ret_bool (apartL_no fun h => ?_).symm, B2⟩
              have := h k m _ _ _ _ hkm HK.out HM.out
              rw [← HB.out] at this
              cases this
        · obtain rfl : m = n := by omega
          go_wp2_with fail
          go_roundw
          case rel =>
            refine ⟨k + 1, by omega, by go_num, fun i' k' U' N' U2 N2 h0 hik h1 h2 => ?_, hb⟩
            rcases Nat.lt_succ_iff_lt_or_eq.1 h0 with h | rfl
            · exact HP.out i' k' U' N' U2 N2 h hik h1 h2
            · have := h1.symm.trans HK.out
              simp only [Option.some.injEq, Prod.mk.injEq] at this
              rw [this.1, this.2]
              exact HQ.out k' hik (by have := (List.getElem?_eq_some_iff.1 h2).1; rw [HN.out]; exact this) U2 N2 h2
          case measure => simp [intOf]; omega
    · obtain rfl : k = n := by omega
      go_wp2_with fail
      go_ret
      refine ⟨ret_bool (apartL_yes fun i' k' U N U' N' hik h1 h2 => HP.out i' k' U N U' N' ?_ hik h1 h2).symm, hb⟩
      have := (List.getElem?_eq_some_iff.1 h1).1
      rw [HN.out]; exact this
end Go.Proofs.Ytjlghkiplapodaa
