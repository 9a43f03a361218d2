import Derived.Test.YtplnlmkmaapbaaaLawRanges
namespace Go.Proofs.Ytplnlmkmaapbaaa
open Go Go.RowKit

theorem ran_near (l h : Int) : ∀ (k : Nat) (a b : Nat × Nat), (ran l h)[k]? = some a → (ran l h)[k + 1]? = some b → b.1 = a.1 + sz a.2 ∧ ¬ (a.2 = b.2 ∧ 0 < a.2 ∧ a.1 / sz a.2 % 2 = 0) := by
  intro k a b ha hb
  unfold ran at ha hb
  by_cases c : isR l h = true
  · rw [if_pos c] at ha hb
    exact rng_near _ _ k a b ha hb
  · rw [if_neg c] at ha; simp at ha
theorem ran_some (l h : Int) (c : isR l h = true) : 0 < (ran l h).length := by
  have hc := (isR_iff l h).1 c
  unfold ran
  rw [if_pos c, rng_cons (by omega)]
  simp

set_option maxRecDepth 100000 in
set_option maxHeartbeats 2000000 in
theorem lawFew_any (l h : Int) (w : World) :
    Calls Try.prog 4 #[.int .i64 l, .int .i64 h] w fun e w' => e = .returned (.bool true) ∧ Below w.heap.size w w' := by
  have AW : Hid (∀ W, Calls Try.prog 6 #[] W fun e w' => e = .returned (.bool true) ∧ Below W.heap.size W w') := awake_any
  have R1 : Hid (∀ W, Calls Try.prog 7 #[.int .i64 l, .int .i64 h] W fun e w' => ∃ u, e = .returned (.tuple #[u, .int .i64 (ranE l h)]) ∧ w'.ownsRow W.heap.size 29 2 u (ran l h).length (pcells (ran l h)) ∧ Below W.heap.size W w') := range_any l h
  have HM : Hid (∀ (k : Nat) (p : Nat × Nat), (ran l h)[k]? = some p → p.2 ≤ 16 ∧ p.1 ≤ 65535) := fun k p => ran_mem
  have HR : Hid (∀ (k : Nat) (a b : Nat × Nat), (ran l h)[k]? = some a → (ran l h)[k + 1]? = some b → b.1 = a.1 + sz a.2 ∧ ¬ (a.2 = b.2 ∧ 0 < a.2 ∧ a.1 / sz a.2 % 2 = 0)) := ran_near l h
  have hfew := ran_few l h
  have HE : Hid (0 < (ran l h).length ∧ ranE l h = 0 ∨ ranE l h = 10 ∧ ran l h = []) := by
    by_cases c : isR l h = true
    · exact .inl ⟨ran_some l h c, by rw [ranE, if_pos c]⟩
    · exact .inr ⟨by rw [ranE, if_neg c], by rw [ran, if_neg c]⟩
  obtain ⟨P, hP⟩ : ∃ P, P = ran l h := ⟨_, rfl⟩
  obtain ⟨E, hE⟩ : ∃ E, E = ranE l h := ⟨_, rfl⟩
  rw [← hP, ← hE] at R1 HE
  rw [← hP] at HM hfew HR
  clear hP hE
  obtain ⟨n, hn⟩ : ∃ n, n = P.length := ⟨_, rfl⟩
  have HN : Hid (n = P.length) := hn
  go_enter Try.func4, Try.ntmps4
  go_wp2_with fail
  refine (AW.out _).mono ?_
  rintro e w1 ⟨rfl, hb1⟩
  go_wp2_with fail
  refine (R1.out _).mono ?_
  rintro e w3 ⟨u, rfl, ho3, hb3⟩
  have S3 := sp_of ho3
  obtain ⟨o, cap, rfl, _, hcap⟩ := S3.slice
  have hb3' := hb1.trans (hb3.mono hb1.size)
  rw [← hn] at S3 hfew ⊢
  have HS3 : Hid (Sp w3 (.slice o n cap) P) := S3
  clear S3 ho3 hb3 hb1 hn
  go_wp2_with fail
  go_loopw [7] (fun i wr => ∃ k : Nat, 1 ≤ k ∧ k ≤ n + 1 ∧ i = .int .i64 (k : Int) ∧ Below w3.heap.size w3 wr) (fun i _ => n + 1 - (intOf i).toNat)
  case atStart => exact ⟨1, Nat.le_refl _, by omega, rfl, Below.refl _ _⟩
  case round =>
    obtain ⟨k, hk0, hk, rfl, hb⟩ := hrel
    by_cases hlt : k < n
    · obtain ⟨j, rfl⟩ : ∃ j, k = j + 1 := ⟨k - 1, by omega⟩
      obtain ⟨g, off, cur, t, fr, p, rfl, hg, hc, hpk⟩ := HS3.out.at j (by omega)
      obtain ⟨g', off', cur', t', fr', p', ho', hg', hc', hpk'⟩ := HS3.out.at (j + 1) hlt
      obtain ⟨rfl, rfl⟩ : g = g' ∧ off = off' := by simpa using ho'
      rw [hg] at hg'
      obtain ⟨rfl, rfl, rfl⟩ : cur = cur' ∧ t = t' ∧ fr = fr' := by simpa using hg'
      have hp1 := HM.out j p hpk
      have hp2 := HM.out (j + 1) p' hpk'
      have hnr := HR.out j p p' hpk hpk'
      have k1 : wr.heap[g]? = some (.cells cur t fr) := (hb.block g (Array.getElem?_eq_some_iff.1 hg).1).trans hg
      obtain ⟨a1, a2⟩ := p
      obtain ⟨b1, b2⟩ := p'
      simp only at hp1 hp2 hc hc' hnr
      have H1 : Hid (∀ i, i < 2 → cur[off + j * 2 + i]? = (pv (a1 : Int) (a2 : Int))[i]?) := hc
      have H2 : Hid (∀ i, i < 2 → cur[off + (j + 1) * 2 + i]? = (pv (b1 : Int) (b2 : Int))[i]?) := hc'
      have D : Hid (∀ W, Calls Try.prog 10 #[.int .i64 (a2 : Int)] W fun e w' => e = .returned (.int .i64 ((sz a2 : Nat) : Int)) ∧ w' = W) := many_any a2 hp1.1
      have hs0 := sz_pos a2
      have hs1 := sz_le a2
      obtain ⟨s, hs⟩ : ∃ s, s = sz a2 := ⟨_, rfl⟩
      rw [← hs] at D hs0 hs1 hnr
      have HNR : Hid (¬ (a2 = b2 ∧ 0 < a2 ∧ a1 / s % 2 = 0)) := hnr.2
      have hab : ¬ b1 ≤ a1 := by omega
      have k2 := heap_past (wr.alloc (.cells (pv (a1 : Int) (a2 : Int)) 29)) (.cells (pv (b1 : Int) (b2 : Int)) 29) _ _ (heap_new wr (.cells (pv (a1 : Int) (a2 : Int)) 29) _ rfl)
      have k3 := heap_new (wr.alloc (.cells (pv (a1 : Int) (a2 : Int)) 29)) (.cells (pv (b1 : Int) (b2 : Int)) 29) (wr.heap.size + 1) (by simp)
      have hws := hb.size
      have B2 := (hb.alloc hb.size (.cells (pv (a1 : Int) (a2 : Int)) 29)).alloc (by simp; omega) (.cells (pv (b1 : Int) (b2 : Int)) 29)
      have k1' := heap_past wr (.cells (pv (a1 : Int) (a2 : Int)) 29) _ _ k1
      have ne1 := Later.ne ((wr.alloc (.cells (pv (a1 : Int) (a2 : Int)) 29)).alloc (.cells (pv (b1 : Int) (b2 : Int)) 29))
      clear hg hg' hc hc' hpk hpk' hs hnr ho' hb
      go_wp2_with (first
        | (refine wl_loadP rfl _ rfl g (off + j * 2) rfl cur t fr (a1 : Int) (a2 : Int) k1 H1.out ?_)
        | (refine wl_loadP rfl _ rfl g (off + (j + 1) * 2) rfl cur t fr (b1 : Int) (b2 : Int) k1' H2.out ?_))
      refine wp_region_later (by kernel_rfl) (by kernel_rfl) ?_
      by_cases h1 : a2 = b2
      · subst h1
        by_cases h2 : 0 < a2
        · have hq : ((a1 : Int) / (s : Int) % 2 == 0) = false := by
            have hn : ¬ a1 / s % 2 = 0 := fun hq => HNR.out ⟨rfl, h2, hq⟩
            simp only [beq_eq_false_iff_ne, ne_eq]
            have hy : ((a1 : Int) / (s : Int)) = ((a1 / s : Nat) : Int) := by simp
            rw [hy]
            omega
          have hy0 : 0 ≤ (a1 : Int) / (s : Int) := Int.ediv_nonneg (by omega) (by omega)
          have hy1 : (a1 : Int) / (s : Int) ≤ 65535 := Int.le_trans (Int.ediv_le_self _ (by omega)) (by omega)
          go_big_quiet_step (fail)
          refine qlN rfl _ rfl wr.heap.size 0 rfl _ _ _ (a1 : Int) k2 rfl ?_
          simp only [Act.put, List.setIfInBounds_toArray, List.set_cons_succ, List.set_cons_zero]
          go_big_quiet_step (fail)
          refine qlN rfl _ rfl (wr.heap.size + 1) 0 rfl _ _ _ (b1 : Int) k3 rfl ?_
          simp only [Act.put, List.setIfInBounds_toArray, List.set_cons_succ, List.set_cons_zero]
          go_big_quiet_step (fail)
          go_big_quiet_step (fail)
          go_big_quiet_step (fail)
          refine qlN rfl _ rfl wr.heap.size 1 rfl _ _ _ (a2 : Int) k2 rfl ?_
          simp only [Act.put, List.setIfInBounds_toArray, List.set_cons_succ, List.set_cons_zero]
          go_big_quiet_step (fail)
          refine qlN rfl _ rfl (wr.heap.size + 1) 1 rfl _ _ _ (a2 : Int) k3 rfl ?_
          simp only [Act.put, List.setIfInBounds_toArray, List.set_cons_succ, List.set_cons_zero]
          go_big_quiet_step (fail)
          go_big_quiet_step (fail)
          go_big_quiet_step (fail)
          refine qlN rfl _ rfl wr.heap.size 1 rfl _ _ _ (a2 : Int) k2 rfl ?_
          simp only [Act.put, List.setIfInBounds_toArray, List.set_cons_succ, List.set_cons_zero]
          go_big_quiet_step (fail)
          go_big_quiet_step (fail)
          go_big_quiet_step (fail)
          go_big_quiet_step (fail)
          refine qlN rfl _ rfl wr.heap.size 0 rfl _ _ _ (a1 : Int) k2 rfl ?_
          simp only [Act.put, List.setIfInBounds_toArray, List.set_cons_succ, List.set_cons_zero]
          go_big_quiet_step (fail)
          refine qlN rfl _ rfl wr.heap.size 1 rfl _ _ _ (a2 : Int) k2 rfl ?_
          simp only [Act.put, List.setIfInBounds_toArray, List.set_cons_succ, List.set_cons_zero]
          go_big_quiet_want; go_big_quiet_op
          refine ⟨_, fun u => Calls.later_same (D.out u.world), ?_⟩
          go_big_quiet_on
          go_big_quiet_step (fail)
          go_big_quiet_step (fail)
          go_big_quiet_step (fail)
          go_big_quiet_step (fail)
          go_big_quiet_step (fail)
          go_big_quiet_step (fail)
          go_big_quiet_step (fail)
          go_big_quiet_step (fail)
          go_big_quiet_step (fail)
          go_big_quiet_step (fail)
          go_big_quiet_step (fail)
          go_big_quiet_step (fail)
          go_big_quiet_step (fail)
          go_big_quiet_step (fail)
          go_big_quiet_step (fail)
          go_big_quiet_step (fail)
          refine wpQuiet_nil ?_
          rintro w' ⟨u, rfl⟩
          have hb5 := B2.trans (u.below.mono B2.size)
          go_wp2_with fail
          go_roundw
          case rel => exact ⟨j + 1 + 1, by omega, by omega, by go_num, hb5⟩
          case measure => simp [intOf]; omega
        · obtain rfl : a2 = 0 := by omega
          go_big_quiet_step (fail)
          refine qlN rfl _ rfl wr.heap.size 0 rfl _ _ _ (a1 : Int) k2 rfl ?_
          simp only [Act.put, List.setIfInBounds_toArray, List.set_cons_succ, List.set_cons_zero]
          go_big_quiet_step (fail)
          refine qlN rfl _ rfl (wr.heap.size + 1) 0 rfl _ _ _ (b1 : Int) k3 rfl ?_
          simp only [Act.put, List.setIfInBounds_toArray, List.set_cons_succ, List.set_cons_zero]
          go_big_quiet_step (fail)
          go_big_quiet_step (fail)
          go_big_quiet_step (fail)
          refine qlN rfl _ rfl wr.heap.size 1 rfl _ _ _ 0 k2 rfl ?_
          simp only [Act.put, List.setIfInBounds_toArray, List.set_cons_succ, List.set_cons_zero]
          go_big_quiet_step (fail)
          refine qlN rfl _ rfl (wr.heap.size + 1) 1 rfl _ _ _ 0 k3 rfl ?_
          simp only [Act.put, List.setIfInBounds_toArray, List.set_cons_succ, List.set_cons_zero]
          go_big_quiet_step (fail)
          go_big_quiet_step (fail)
          go_big_quiet_step (fail)
          refine qlN rfl _ rfl wr.heap.size 1 rfl _ _ _ 0 k2 rfl ?_
          simp only [Act.put, List.setIfInBounds_toArray, List.set_cons_succ, List.set_cons_zero]
          go_big_quiet_step (fail)
          go_big_quiet_step (fail)
          go_big_quiet_step (fail)
          go_big_quiet_step (fail)
          go_big_quiet_step (fail)
          go_big_quiet_step (fail)
          go_big_quiet_step (fail)
          go_big_quiet_step (fail)
          go_big_quiet_step (fail)
          go_big_quiet_step (fail)
          go_big_quiet_step (fail)
          go_big_quiet_step (fail)
          go_big_quiet_step (fail)
          go_big_quiet_step (fail)
          go_big_quiet_step (fail)
          go_big_quiet_step (fail)
          go_big_quiet_step (fail)
          go_big_quiet_step (fail)
          go_big_quiet_step (fail)
          go_big_quiet_step (fail)
          go_big_quiet_step (fail)
          go_big_quiet_step (fail)
          go_big_quiet_step (fail)
          go_big_quiet_step (fail)
          refine wpQuiet_nil ?_
          rintro w' ⟨u, rfl⟩
          have hb5 := B2.trans (u.below.mono B2.size)
          go_wp2_with fail
          go_roundw
          case rel => exact ⟨j + 1 + 1, by omega, by omega, by go_num, hb5⟩
          case measure => simp [intOf]; omega
      · have h1b : ((a2 : Int) == (b2 : Int)) = false := by simp; omega
        go_big_quiet_step (fail)
        refine qlN rfl _ rfl wr.heap.size 0 rfl _ _ _ (a1 : Int) k2 rfl ?_
        simp only [Act.put, List.setIfInBounds_toArray, List.set_cons_succ, List.set_cons_zero]
        go_big_quiet_step (fail)
        refine qlN rfl _ rfl (wr.heap.size + 1) 0 rfl _ _ _ (b1 : Int) k3 rfl ?_
        simp only [Act.put, List.setIfInBounds_toArray, List.set_cons_succ, List.set_cons_zero]
        go_big_quiet_step (fail)
        go_big_quiet_step (fail)
        go_big_quiet_step (fail)
        refine qlN rfl _ rfl wr.heap.size 1 rfl _ _ _ (a2 : Int) k2 rfl ?_
        simp only [Act.put, List.setIfInBounds_toArray, List.set_cons_succ, List.set_cons_zero]
        go_big_quiet_step (fail)
        refine qlN rfl _ rfl (wr.heap.size + 1) 1 rfl _ _ _ (b2 : Int) k3 rfl ?_
        simp only [Act.put, List.setIfInBounds_toArray, List.set_cons_succ, List.set_cons_zero]
        go_big_quiet_step (fail)
        go_big_quiet_step (fail)
        go_big_quiet_step (fail)
        go_big_quiet_step (fail)
        go_big_quiet_step (fail)
        go_big_quiet_step (fail)
        go_big_quiet_step (fail)
        go_big_quiet_step (fail)
        go_big_quiet_step (fail)
        go_big_quiet_step (fail)
        go_big_quiet_step (fail)
        go_big_quiet_step (fail)
        go_big_quiet_step (fail)
        go_big_quiet_step (fail)
        go_big_quiet_step (fail)
        go_big_quiet_step (fail)
        go_big_quiet_step (fail)
        go_big_quiet_step (fail)
        go_big_quiet_step (fail)
        go_big_quiet_step (fail)
        go_big_quiet_step (fail)
        go_big_quiet_step (fail)
        go_big_quiet_step (fail)
        go_big_quiet_step (fail)
        go_big_quiet_step (fail)
        go_big_quiet_step (fail)
        go_big_quiet_step (fail)
        go_big_quiet_step (fail)
        refine wpQuiet_nil ?_
        rintro w' ⟨u, rfl⟩
        have hb5 := B2.trans (u.below.mono B2.size)
        go_wp2_with fail
        go_roundw
        case rel => exact ⟨j + 1 + 1, by omega, by omega, by go_num, hb5⟩
        case measure => simp [intOf]; omega
    · obtain hkn : n ≤ k := by omega
      have hbe := hb3'.trans (hb.mono hb3'.size)
      rcases HE.out with ⟨hR, hE⟩ | ⟨hE, hP⟩
      · rw [← HN.out] at hR
        subst hE
        have h0 : ¬ n = 0 := by omega
        go_wp2_with fail
        go_ret
        exact ⟨ret_bool (by simp; omega), hbe⟩
      · have hn0 := HN.out
        rw [hP] at hn0
        subst hE
        obtain rfl : n = 0 := hn0
        go_wp2_with fail
        go_ret
        exact ⟨rfl, hbe⟩
end Go.Proofs.Ytplnlmkmaapbaaa
