import Derived.Test.YtplnlmkmaapbaaaSpAwake
namespace Go.Proofs.Ytplnlmkmaapbaaa
open Go Go.RowKit

theorem ran_mem {l h : Int} {p : Nat × Nat} {k : Nat} (hp : (ran l h)[k]? = some p) : p.2 ≤ 16 ∧ p.1 ≤ 65535 := by
  unfold ran at hp
  by_cases c : isR l h = true
  · rw [if_pos c] at hp
    have hc := (isR_iff l h).1 c
    have := List.mem_of_getElem? hp
    exact ⟨rng_bits this, by have := (rng_mem _ _ _ this).2.1; omega⟩
  · rw [if_neg c] at hp; simp at hp
theorem ran_few (l h : Int) : (ran l h).length ≤ 30 := by
  unfold ran
  by_cases c : isR l h = true
  · rw [if_pos c]
    have hc := (isR_iff l h).1 c
    exact rng_few _ _ (by omega) (by omega)
  · rw [if_neg c]; exact Nat.zero_le _
/-- How many of the pieces have a number. -/
def cntP (P : List (Nat × Nat)) (x : Nat) : Nat := (P.filter fun p => inP p x).length
theorem cntP_take {P : List (Nat × Nat)} {p : Nat × Nat} {k : Nat} (hk : P[k]? = some p) (x : Nat) : cntP (P.take (k + 1)) x = cntP (P.take k) x + (if inP p x then 1 else 0) := by
  unfold cntP
  rw [List.take_add_one, hk, List.filter_append, List.length_append]
  congr 1
  cases h : inP p x <;> simp [h]
theorem cntP_ran (l h : Int) (x : Nat) (c : isR l h = true) : cntP (ran l h) x = if l ≤ (x : Int) ∧ (x : Int) ≤ h then 1 else 0 := by
  have hc := (isR_iff l h).1 c
  unfold cntP ran
  rw [if_pos c, cnt_rng]
  by_cases d : l ≤ (x : Int) ∧ (x : Int) ≤ h
  · rw [if_pos d, if_pos (by omega)]
  · rw [if_neg d, if_neg (by omega)]

set_option maxHeartbeats 2000000 in
theorem lawRanges_any (l h : Int) (x : Nat) (hx : x ≤ 65535) (w : World) :
    Calls Try.prog 3 #[.int .i64 l, .int .i64 h, .int .u16 (x : Int)] w fun e w' => e = .returned (.bool true) ∧ Below w.heap.size w w' := by
  have AW : Hid (∀ W, Calls Try.prog 6 #[] W fun e w' => e = .returned (.bool true) ∧ Below W.heap.size W w') := awake_any
  have R1 : Hid (∀ W, Calls Try.prog 7 #[.int .i64 l, .int .i64 h] W fun e w' => ∃ u, e = .returned (.tuple #[u, .int .i64 (ranE l h)]) ∧ w'.ownsRow W.heap.size 29 2 u (ran l h).length (pcells (ran l h)) ∧ Below W.heap.size W w') := range_any l h
  have R2 : Hid (∀ W, Calls Try.prog 8 #[.int .i64 l, .int .i64 h] W fun e w' => ∃ u, e = .returned (.tuple #[u, .int .i64 (ranE l h)]) ∧ w'.ownsRow W.heap.size 29 2 u (ran l h).length (pcells (ran l h)) ∧ Below W.heap.size W w') := rrange_any l h
  have HM : Hid (∀ (k : Nat) (p : Nat × Nat), (ran l h)[k]? = some p → p.2 ≤ 16 ∧ p.1 ≤ 65535) := fun k p => ran_mem
  have hfew := ran_few l h
  have HC : Hid (isR l h = true → cntP (ran l h) x = if l ≤ (x : Int) ∧ (x : Int) ≤ h then 1 else 0) := cntP_ran l h x
  have HE : Hid (isR l h = true ∧ ranE l h = 0 ∨ ranE l h = 10 ∧ ran l h = []) := by
    by_cases c : isR l h = true
    · exact .inl ⟨c, by rw [ranE, if_pos c]⟩
    · exact .inr ⟨by rw [ranE, if_neg c], by rw [ran, if_neg c]⟩
  obtain ⟨P, hP⟩ : ∃ P, P = ran l h := ⟨_, rfl⟩
  obtain ⟨E, hE⟩ : ∃ E, E = ranE l h := ⟨_, rfl⟩
  rw [← hP, ← hE] at R1 R2 HE
  rw [← hP] at HM hfew HC
  clear hP hE
  obtain ⟨n, hn⟩ : ∃ n, n = P.length := ⟨_, rfl⟩
  have HN : Hid (n = P.length) := hn
  go_enter Try.func3, Try.ntmps3
  go_wp2_with fail
  refine (AW.out _).mono ?_
  rintro e w1 ⟨rfl, hb1⟩
  go_wp2_with fail
  refine (R1.out _).mono ?_
  rintro e w2 ⟨u, rfl, ho2, hb2⟩
  have S2 := sp_of ho2
  obtain ⟨o, cap, rfl, _, hcap⟩ := S2.slice
  have hb2' := hb1.trans (hb2.mono hb1.size)
  go_wp2_with fail
  refine (R2.out _).mono ?_
  rintro e w3 ⟨v, rfl, ho3, hb3⟩
  have S3 := sp_of ho3
  obtain ⟨o', cap', rfl, _, hcap'⟩ := S3.slice
  have S2' := S2.below hb3
  have hb3' := hb2'.trans (hb3.mono hb2'.size)
  rw [← hn] at S2' S3 hfew ⊢
  have HS2 : Hid (Sp w3 (.slice o n cap) P) := S2'
  have HS3 : Hid (Sp w3 (.slice o' n cap') P) := S3
  clear S2' S3 S2 ho2 ho3 hb2' hb3 hb2 hb1 hn
  go_wp2_with fail
  go_loopw [11, 12] (fun c i wr => ∃ k : Nat, k ≤ n ∧ i = .int .i64 (k : Int) ∧ (∃ m : Nat, m = cntP (P.take k) x ∧ m ≤ k ∧ c = .int .i64 (m : Int)) ∧ Below w3.heap.size w3 wr) (fun _ i _ => n - (intOf i).toNat)
  case atStart => exact ⟨0, Nat.zero_le _, rfl, ⟨0, rfl, Nat.le_refl _, rfl⟩, Below.refl _ _⟩
  case round =>
    obtain ⟨k, hk, rfl, ⟨m, hm, hmk, rfl⟩, hb⟩ := hrel
    have HMC : Hid (m = cntP (P.take k) x) := hm
    clear hm
    by_cases hlt : k < n
    · obtain ⟨g, off, cur, t, fr, p, rfl, hg, hc, hpk⟩ := HS2.out.at k hlt
      obtain ⟨g', off', cur', t', fr', p', rfl, hg', hc', hpk'⟩ := HS3.out.at k hlt
      obtain rfl : p = p' := by rw [hpk] at hpk'; simpa using hpk'
      have hp2 := HM.out k p hpk
      have k1 : wr.heap[g]? = some (.cells cur t fr) := (hb.block g (Array.getElem?_eq_some_iff.1 hg).1).trans hg
      have k2 : wr.heap[g']? = some (.cells cur' t' fr') := (hb.block g' (Array.getElem?_eq_some_iff.1 hg').1).trans hg'
      have H1 : Hid (∀ j, j < 2 → cur[off + k * 2 + j]? = (pv (p.1 : Int) (p.2 : Int))[j]?) := hc
      have H2 : Hid (∀ j, j < 2 → cur'[off' + k * 2 + j]? = (pv (p.1 : Int) (p.2 : Int))[j]?) := hc'
      have HT : Hid (cntP (P.take (k + 1)) x = cntP (P.take k) x + (if inP p x then 1 else 0)) := cntP_take hpk x
      obtain ⟨a, b⟩ := p
      simp only at hp2 H1 H2
      have D : Hid (∀ W, Calls Try.prog 9 #[.agg (pv (a : Int) (b : Int)), .int .i64 (x : Int)] W fun e w' => e = .returned (.bool (inP (a, b) x)) ∧ Below W.heap.size W w') := fun W => in_any (a, b) hp2.1 hp2.2 x hx W
      obtain ⟨q, hq⟩ : ∃ q, q = inP (a, b) x := ⟨_, rfl⟩
      rw [← hq] at D HT
      have e1 := eqP (a : Int) (b : Int)
      have eg := egP
      clear hg hg' hc hc' hpk hpk' hq
      have ne1 := Later.ne wr
      go_wp2_with fail
      refine wp_region_later (by kernel_rfl) (by kernel_rfl) ?_
      go_big_quiet_step (fail)
      go_big_quiet_step (fail)
      go_big_quiet_step (fail)
      refine qlP rfl _ rfl g (off + k * 2) rfl cur t fr (a : Int) (b : Int) k1 H1.out ?_
      simp only [Act.put, List.setIfInBounds_toArray, List.set_cons_succ, List.set_cons_zero]
      go_big_quiet_step (fail)
      go_big_quiet_step (fail)
      go_big_quiet_step (fail)
      refine qlP rfl _ rfl g' (off' + k * 2) rfl cur' t' fr' (a : Int) (b : Int) k2 H2.out ?_
      simp only [Act.put, List.setIfInBounds_toArray, List.set_cons_succ, List.set_cons_zero]
      go_big_quiet_step (fail)
      refine wpQuiet_nil ?_
      rintro w' ⟨u, rfl⟩
      have hb5 := hb.trans (u.below.mono hb.size)
      have k3 := later_block k1 _ ⟨u, rfl⟩
      obtain ⟨w5, hw5⟩ : ∃ w5, w5 = u.world := ⟨_, rfl⟩
      rw [← hw5] at hb5 k3 ⊢
      clear ne1 k1 k2 hb hw5 e1 eg
      go_wp2_with (first
        | (refine wl_loadP rfl _ rfl g (off + k * 2) rfl cur t fr (a : Int) (b : Int) k3 H1.out ?_))
      refine (D.out _).mono ?_
      rintro e w6 ⟨rfl, hb6⟩
      have hb7 := hb5.trans (hb6.mono hb5.size)
      clear hb6 hb5 k3
      cases q
      · go_wp2_with fail
        go_roundw
        case rel => exact ⟨k + 1, by omega, by go_num, ⟨m, by rw [HT.out, ← HMC.out]; rfl, by omega, rfl⟩, hb7⟩
        case measure => simp [intOf]; omega
      · go_wp2_with fail
        go_roundw
        case rel => exact ⟨k + 1, by omega, by go_num, ⟨m + 1, by rw [HT.out, ← HMC.out]; rfl, by omega, by go_num⟩, hb7⟩
        case measure => simp [intOf]; omega
    · obtain rfl : k = n := by omega
      have hbe := hb3'.trans (hb.mono hb3'.size)
      have HM2 : Hid (m = cntP P x) := by
        have := HMC.out
        rwa [HN.out, List.take_length] at this
      rcases HE.out with ⟨hR, hE⟩ | ⟨hE, hP⟩
      · subst hE
        have hcnt := HC.out hR
        rw [← HM2.out] at hcnt
        by_cases d : l ≤ (x : Int) ∧ (x : Int) ≤ h
        · rw [if_pos d] at hcnt
          subst hcnt
          obtain ⟨d1, d2⟩ := d
          go_wp2_with fail
          go_ret
          exact ⟨rfl, hbe⟩
        · rw [if_neg d] at hcnt
          subst hcnt
          by_cases d1 : l ≤ (x : Int)
          · have d2 : h < (x : Int) := by omega
            clear d
            go_wp2_with fail
            go_ret
            exact ⟨ret_bool (by simp; omega), hbe⟩
          · clear d
            go_wp2_with fail
            go_ret
            exact ⟨rfl, hbe⟩
      · have hn0 := HN.out
        rw [hP] at hn0
        subst hE
        obtain rfl : k = 0 := hn0
        go_wp2_with fail
        go_ret
        exact ⟨rfl, hbe⟩
end Go.Proofs.Ytplnlmkmaapbaaa
