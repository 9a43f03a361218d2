import Derived.Test.YtgbmfifalfedbaaLexAwake
import Derived.Test.YtgbmfifalfedbaaOrders
import Derived.Test.YtgbmfifalfedbaaLawLReads
namespace Go.Proofs.Ytgbmfifalfedbaa
open Go Go.RowKit

theorem lexT_ok {S : List UInt8} (h : S.length ≤ 4096) (h0 : (lexT S).2.1 = 0) : lexW 0 S = .ok (lexT S).1 := by
  unfold lexT at h0 ⊢
  rw [if_neg (by omega)] at h0 ⊢
  cases hx : lexW 0 S with
  | ok l => rfl
  | error x =>
    obtain ⟨e, p⟩ := x
    have := lexW_error S 0 e p hx
    rw [hx] at h0
    have h0' : e = 0 := h0
    omega
theorem lexT_of {S : List UInt8} {l : List Tok} (h : S.length ≤ 4096) (h0 : lexW 0 S = .ok l) : lexT S = (l, 0, 0) := by
  unfold lexT
  rw [if_neg (by omega), h0]
/-- The list with a Line more. -/
def putL (L : List Tok) (k p b : Nat) : List Tok := L.take k ++ (⟨7, p + b, [], 0⟩ : Tok) :: (L.drop k).map (sh (b + 1))
theorem putL_len (L : List Tok) (k p b : Nat) (hk : k ≤ L.length) : (putL L k p b).length = L.length + 1 := by simp [putL]; omega
theorem putL_ahead (L : List Tok) (k p b : Nat) (hk : k ≤ L.length) (i : Nat) (hi : i < k) : (putL L k p b)[i]? = L[i]? := by
  unfold putL
  rw [List.getElem?_append_left (by simp; omega), List.getElem?_take_of_lt hi]
theorem putL_behind (L : List Tok) (k p b : Nat) (hk : k ≤ L.length) (i : Nat) (hi : k ≤ i) (t : Tok) (ht : L[i]? = some t) : (putL L k p b)[i + 1]? = some (sh (b + 1) t) := by
  unfold putL
  rw [List.getElem?_append_right (by simp; omega), List.length_take, Nat.min_eq_left hk, show i + 1 - k = (i - k) + 1 by omega, List.getElem?_cons_succ, List.getElem?_map, List.getElem?_drop, show k + (i - k) = i by omega, ht]
  rfl

set_option maxRecDepth 100000 in
set_option maxHeartbeats 8000000 in
theorem lawBlanks_any (s : ByteArray) (kk : Int) (b : ByteArray) (hs : s.size ≤ maxLen) (hb : b.size ≤ maxLen) (w : World) :
    Calls Try.prog 5 #[.string s, .int .i64 kk, .string b] w fun e w' => e = .returned (.bool true) ∧ Below w.heap.size w w' := by
  have AW : Hid (∀ W, Calls Try.prog 7 #[] W fun e w' => e = .returned (.bool true) ∧ Below W.heap.size W w') := awake_any
  have TK : Hid (∀ (s : ByteArray), s.size ≤ maxLen → ∀ W, Calls Try.prog 8 #[.string s] W fun e w' => ∃ u, e = .returned (.tuple #[u, .int .i64 ((lexT s.data.toList).2.1 : Nat), .int .i64 ((lexT s.data.toList).2.2 : Nat)]) ∧ w'.ownsRow W.heap.size 28 4 u (lexT s.data.toList).1.length (gcells encT (lexT s.data.toList).1) ∧ Below W.heap.size W w') := tokens_any
  have C1 : Hid _ := TK.out s hs
  have C2 : Hid _ := TK.out b hb
  unfold maxLen at hs hb
  by_cases h1 : s.size > 2000
  · have h1' : decide ((2000 : Int) < (s.size : Int)) = true := decide_eq_true (by omega)
    clear h1
    go_enter Try.func5, Try.ntmps5
    go_wp2_with fail
    refine (AW.out _).mono ?_
    rintro e w1 ⟨rfl, hb1⟩
    go_wp2_with fail
    go_ret
    exact ⟨rfl, hb1⟩
  by_cases h2 : b.size > 500
  · have h1' : decide ((2000 : Int) < (s.size : Int)) = false := decide_eq_false (by omega)
    have h2' : decide ((500 : Int) < (b.size : Int)) = true := decide_eq_true (by omega)
    clear h1 h2
    go_enter Try.func5, Try.ntmps5
    go_wp2_with fail
    refine (AW.out _).mono ?_
    rintro e w1 ⟨rfl, hb1⟩
    go_wp2_with fail
    go_ret
    exact ⟨rfl, hb1⟩
  have h1' : decide ((2000 : Int) < (s.size : Int)) = false := decide_eq_false (by omega)
  have h2' : decide ((500 : Int) < (b.size : Int)) = false := decide_eq_false (by omega)
  have hnum := lexT_nums s.data.toList
  have hnum2 := lexT_nums b.data.toList
  have HO : Hid ((lexT s.data.toList).2.1 = 0 → lexW 0 s.data.toList = .ok (lexT s.data.toList).1) := fun h => lexT_ok (by rw [← Lib.size_eq]; omega) h
  have HO2 : Hid ((lexT b.data.toList).2.1 = 0 → lexW 0 b.data.toList = .ok (lexT b.data.toList).1) := fun h => lexT_ok (by rw [← Lib.size_eq]; omega) h
  obtain ⟨⟨L, E, A⟩, hT⟩ : ∃ T, T = lexT s.data.toList := ⟨_, rfl⟩
  obtain ⟨⟨L2, E2, A2⟩, hT2⟩ : ∃ T, T = lexT b.data.toList := ⟨_, rfl⟩
  rw [← hT] at C1 hnum HO
  rw [← hT2] at C2 hnum2 HO2
  simp only at C1 C2 hnum hnum2 HO HO2
  obtain ⟨n, hn⟩ : ∃ n, n = L.length := ⟨_, rfl⟩
  obtain ⟨n2, hn2⟩ : ∃ n, n = L2.length := ⟨_, rfl⟩
  have HN : Hid (n = L.length) := hn
  have HN2 : Hid (n2 = L2.length) := hn2
  have hnn : n ≤ 4096 := by omega
  have hnn2 : n2 ≤ 4096 := by omega
  clear hT hT2 hnum hnum2
  go_enter Try.func5, Try.ntmps5
  go_wp2_with fail
  refine (AW.out _).mono ?_
  rintro e w1 ⟨rfl, hb1⟩
  go_wp2_with fail
  refine (C1.out _).mono ?_
  rintro e w2 ⟨u, rfl, ho2, hb2⟩
  go_wp2_with fail
  refine (C2.out _).mono ?_
  rintro e w3 ⟨u', rfl, ho3, hb3⟩
  have G2 : GSl TokE encT w3 u L := (gsl_of (E := TokE) ho2 fun c _ => rfl).below hb3
  obtain ⟨o, cap, rfl, _, hcap⟩ := G2.slice
  obtain ⟨o', cap', rfl⟩ := gown_slice ho3
  have B3 : Below w.heap.size w w3 := (hb1.trans (hb2.mono hb1.size)).trans (hb3.mono (Nat.le_trans hb1.size hb2.size))
  rw [← hn] at G2 ⊢
  rw [← hn2]
  have HG2 : Hid (GSl TokE encT w3 (.slice o n cap) L) := G2
  clear G2 ho2 ho3 hb1 hb2 hb3 hn hn2 AW C1 C2
  by_cases hE : E = 0
  case neg =>
    have hE' : ((E : Int) != 0) = true := by simp; omega
    clear hE
    go_wp2_with fail
    go_ret
    exact ⟨rfl, B3⟩
  have hE' : ((E : Int) != 0) = false := by simp; omega
  by_cases hF : E2 = 0
  case neg =>
    have hF' : ((E2 : Int) != 0) = true := by simp; omega
    clear hE hF
    go_wp2_with fail
    go_ret
    exact ⟨rfl, B3⟩
  have hF' : ((E2 : Int) != 0) = false := by simp; omega
  by_cases hz : 0 < n2
  · have hz' : (n2 : Int) > 0 := by omega
    clear hE hF hz
    go_wp2_with fail
    go_ret
    exact ⟨rfl, B3⟩
  have hz' : ¬ (n2 : Int) > 0 := by omega
  by_cases hk0 : kk < 0
  · clear hE hF hz
    go_wp2_with fail
    go_ret
    exact ⟨rfl, B3⟩
  obtain ⟨k, rfl⟩ := Int.eq_ofNat_of_zero_le (show 0 ≤ kk by omega)
  by_cases hkn : n ≤ k
  · have hkn' : (k : Int) ≥ (n : Int) := by omega
    clear hE hF hz hkn
    go_wp2_with fail
    go_ret
    exact ⟨rfl, B3⟩
  have hkn' : ¬ (k : Int) ≥ (n : Int) := by omega
  have hkd : decide (n ≤ k) = false := decide_eq_false hkn
  have hk0d : decide ((k : Int) < 0) = false := decide_eq_false (by omega)
  have HW : Hid (lexW 0 s.data.toList = .ok L) := HO.out hE
  have HW2 : Hid (lexW 0 b.data.toList = .ok []) := by
    have := HO2.out hF
    have e : L2 = [] := List.eq_nil_of_length_eq_zero (by have := HN2.out; omega)
    rwa [e] at this
  clear hE hF hz HO HO2 HN2 hkn
  obtain ⟨g, off, cur, t, fr, c, rfl, hg, hc, hLk⟩ := HG2.out.at k (by omega)
  have HLK : Hid (L[k]? = some c) := hLk
  have cp : w3.cell? ⟨g, off + k * 4 + 1, none⟩ = some (.int .i64 (c.pos : Int)) := by
    rw [cell_of_row _ _ _ _ _ _ hg]; exact hc 1 (by show 1 < 4; decide)
  have hps : c.pos < s.size := by
    rw [Lib.size_eq]
    have := (lexW_places _ _ _ HW.out).1 k c hLk
    omega
  obtain ⟨p, hp⟩ : ∃ p, p = c.pos := ⟨_, rfl⟩
  rw [← hp] at cp hps
  have HP : Hid (p = c.pos) := hp
  have hz1 : (s.extract 0 p).size = p := by rw [ByteArray.size_extract]; omega
  have hz2 : (s.extract p s.size).size = s.size - p := by rw [ByteArray.size_extract]; omega
  have hd1 : (s.extract 0 p).data.toList = s.data.toList.take p := by rw [Lib.extract_data, List.drop_zero, Nat.sub_zero]
  have hd2 : (s.extract p s.size).data.toList = s.data.toList.drop p := by
    rw [Lib.extract_data, List.take_of_length_le]
    rw [List.length_drop, ← Lib.size_eq]; exact Nat.le_refl _
  clear hg hc hLk hp
  by_cases hb0 : b.size = 0
  · have hbe : b = ⟨#[]⟩ := by
      apply ByteArray.ext
      exact Array.eq_empty_of_size_eq_zero hb0
    have C3 : Hid (∀ W, Calls Try.prog 8 #[.string (s.extract 0 p ++ b ++ s.extract p s.size)] W fun e w' => ∃ u, e = .returned (.tuple #[u, .int .i64 0, .int .i64 0]) ∧ w'.ownsRow W.heap.size 28 4 u L.length (gcells encT L) ∧ Below W.heap.size W w') := fun W => by
      have e : (s.extract 0 p ++ b ++ s.extract p s.size) = s := by
        apply ByteArray.ext
        apply Array.ext'
        rw [ByteArray.data_append, ByteArray.data_append, Array.toList_append, Array.toList_append, hd1, hd2, hbe]
        simp
      rw [e]
      have := TK.out s (by unfold maxLen; exact hs) W
      rwa [lexT_of (by rw [← Lib.size_eq]; omega) HW.out] at this
    clear hbe HW HW2 TK hd1 hd2
    have hb0' : ¬ (b.size : Int) > 0 := by omega
    have hb0'' : ((b.size : Int) == 0) = true := by rw [hb0]; rfl
    obtain ⟨M, hM⟩ : ∃ M, M = L := ⟨_, rfl⟩
    obtain ⟨m, hm⟩ : ∃ m, m = M.length := ⟨_, rfl⟩
    have HML : Hid (M = L) := hM
    have HMN : Hid (m = n) := by show m = n; rw [hm, hM, HN.out]
    have hmn : m ≤ 4096 := by have := HMN.out; omega
    have emn : ((m : Int) != (n : Int)) = false := by have := HMN.out; simp; omega
    rw [← hM] at C3
    clear hM
    go_wp2_with fail
    have ne1 := Later.ne w3
    refine region_cut (fun a a' w' => ∃ u y72 y73 y74 y75 y76 y77 y78 y79 y80 y81 y82 y83 y84 y85, a' = (((((((((((((((((a.put (some 14) u).put (some 15) (.int .i64 0)).put (some 16) (.int .i64 0)).put (some 72) y72).put (some 73) y73).put (some 74) y74).put (some 75) y75).put (some 76) y76).put (some 77) y77).put (some 78) y78).put (some 79) y79).put (some 80) y80).put (some 81) y81).put (some 82) y82).put (some 83) y83).put (some 84) y84).put (some 85) y85) ∧ GSl TokE encT w' u M ∧ Below w3.heap.size w3 w') ?_ ?_
    · refine region_begin 17 rfl (by kernel_rfl) ?_
      have hW0 : Below w3.heap.size w3 w3.drew := (Below.refl _ _).drew
      refine region_reads 0 9 8 rfl (by kernel_rfl) (by kernel_rfl) (by kernel_rfl) (by intro d v c a w h; exact absurd h.1 (by simp)) ⟨⟨w3.drew, hW0⟩, rfl⟩ ?_
      simp only [List.drop_zero, List.take_succ_cons, List.take_zero]
      repeat go_big_quiet_step (fail)
      refine wpQuiet_nil ?_
      refine wpAnyH_all (rs := [9]) (by kernel_rfl) (by decide) ?_
      intro i hi
      obtain rfl := List.mem_singleton.1 hi
      refine wpOp_call rfl rfl 8 #[.tmp 81] (by intro b w; have hf := Try.func8; simp [go_sem]) #[.string (s.extract 0 p ++ b ++ s.extract p s.size)] rfl (fun v w' => ∃ u, v = .tuple #[u, .int .i64 0, .int .i64 0] ∧ GSl TokE encT w' u M ∧ Below w3.drew.heap.size w3.drew w') ((C3.out _).mono fun e w' ⟨u, h1, h2, h3⟩ => ⟨_, h1, u, rfl, gsl_of (E := TokE) h2 fun c _ => rfl, h3⟩) (some 82) rfl ?_
      rintro v x3 ⟨u, rfl, hG, hx3⟩
      have hW4 : Below w3.heap.size w3 x3 := hW0.trans (hx3.mono hW0.size)
      refine ⟨⟨⟨x3, hW4⟩, rfl⟩, ?_⟩
      simp only [Act.put, List.setIfInBounds_toArray, List.set_cons_succ, List.set_cons_zero]
      refine region_reads 10 7 0 rfl (by kernel_rfl) (by kernel_rfl) (by kernel_rfl) (by intro d v c a w h; exact absurd h.1 (by simp)) ⟨⟨x3, hW4⟩, rfl⟩ ?_
      simp only [List.drop_succ_cons, List.drop_zero, List.take_succ_cons, List.take_zero]
      repeat go_big_quiet_step (fail)
      refine wpQuiet_nil ?_
      refine wpAnyH_done (by kernel_rfl) ?_ _
      exact ⟨rfl, _, _, _, _, _, _, _, _, _, _, _, _, _, _, _, rfl, hG, hW4⟩
    rintro a' w4 ⟨um, y72, y73, y74, y75, y76, y77, y78, y79, y80, y81, y82, y83, y84, y85, rfl, hGM, hb4⟩
    simp only [Act.put, List.setIfInBounds_toArray, List.set_cons_succ, List.set_cons_zero]
    obtain ⟨om, capm, rfl, _, hcapm⟩ := hGM.slice
    have HG4 : Hid (GSl TokE encT w4 (.slice (some ⟨g, off, none⟩) n cap) L) := HG2.out.below hb4
    rw [← hm] at hGM ⊢
    have HGM : Hid (GSl TokE encT w4 (.slice om m capm) M) := hGM
    have B4 := B3.trans (hb4.mono B3.size)
    clear hGM hb4 HG2 hm C3
    go_wp2_with fail
    go_loopw [17] (fun i wr => ∃ j : Nat, j ≤ n ∧ i = .int .i64 (j : Int) ∧ Below w4.heap.size w4 wr) (fun i _ => n - (intOf i).toNat)
    case atStart => exact ⟨0, Nat.zero_le _, rfl, Below.refl _ _⟩
    case round =>
      obtain ⟨j, hj, rfl, hb⟩ := hrel
      by_cases hlt : j < n
      · obtain ⟨g1, off1, cur1, t1, fr1, c1, ho1, hg1, hc1, hLj⟩ := HG4.out.at j hlt
        obtain ⟨rfl, rfl⟩ : g = g1 ∧ off = off1 := by simpa using ho1
        obtain ⟨g2, off2, cur2, t2, fr2, c2, rfl, hg2, hc2, hMj⟩ := HGM.out.at j (by have := HMN.out; omega)
        have k1 : wr.heap[g]? = some (.cells cur1 t1 fr1) := (hb.block g (Array.getElem?_eq_some_iff.1 hg1).1).trans hg1
        have k2 : wr.heap[g2]? = some (.cells cur2 t2 fr2) := (hb.block g2 (Array.getElem?_eq_some_iff.1 hg2).1).trans hg2
        have H1 : Hid (∀ i, i < 4 → cur1[off + j * 4 + i]? = (encT c1)[i]?) := hc1
        have H2 : Hid (∀ i, i < 4 → cur2[off2 + j * 4 + i]? = (encT c2)[i]?) := hc2
        have eg : ∀ op x y (xs ys : Array Value) w, (eqGuard op 28 x y (.agg xs) (.agg ys)).run Try.prog w = .ok () w := egT
        have hlt' : (j : Int) < (n : Int) := by omega
        have hz4 := hb.size
        have HSAME : c2 = c1 := by
          rw [HML.out, hLj] at hMj
          exact (Option.some.inj hMj).symm
        have hjm : (j : Int) < (m : Int) := by have := HMN.out; omega
        by_cases hjk : k ≤ j
        · have hjk' : (j : Int) ≥ (k : Int) := by omega
          have e1 : ∀ w, (Op.equalIn 10000 28 (.agg (encT c1)) (.agg (encT c1))).run Try.prog w = .ok true w := eqT_same c1
          obtain rfl : c2 = c1 := HSAME
          clear hg1 hg2 hc1 hc2 hLj hMj ho1
          have k3 := heap_past wr (.cells (encT c2) 28) _ _ k1
          have k4 := heap_new wr (.cells (encT c2) 28) _ rfl
          have B6 := hb.alloc hb.size (.cells (encT c2) 28)
          have ne2 := Later.ne (wr.alloc (.cells (encT c2) 28))
          go_wp2_with (first
            | (refine wl_loadE (E := TokE) TokOk rfl _ rfl g2 (off2 + j * 4) rfl cur2 t2 fr2 (encT c2) rfl k2 H2.out ?_)
            | (refine wl_storeE (E := TokE) TokOk rfl _ _ rfl wr.heap.size (encT c2) (tv_fits _ _ _ _) rfl rfl _ (heap_new _ _ _ rfl) rfl _ (setRow_new _ _ _ _ _ rfl) ?_))
          refine wp_region_later (by kernel_rfl) (by kernel_rfl) ?_
          refine qlE (E := TokE) TokOk rfl _ rfl wr.heap.size 0 rfl _ _ _ (encT c2) rfl (later_block k4) (own_cells _ _) ?_
          simp only [Act.put, List.setIfInBounds_toArray, List.set_cons_succ, List.set_cons_zero]
          go_big_quiet_step (fail)
          go_big_quiet_step (fail)
          go_big_quiet_step (fail)
          refine qlE (E := TokE) TokOk rfl _ rfl g (off + j * 4) rfl cur1 t1 fr1 (encT c2) rfl (later_block k3) H1.out ?_
          simp only [Act.put, List.setIfInBounds_toArray, List.set_cons_succ, List.set_cons_zero]
          go_big_quiet_step (fail)
          refine wpQuiet_nil ?_
          rintro w' ⟨u, rfl⟩
          have hb6 := B6.trans (u.below.mono B6.size)
          go_wp2_with fail
          go_roundw
          case rel => exact ⟨j + 1, by omega, by go_num, hb6⟩
          case measure => simp [intOf]; omega
        · have hjk' : ¬ (j : Int) ≥ (k : Int) := by omega
          have e1 : ∀ w, (Op.equalIn 10000 28 (.agg (encT c1)) (.agg (encT c1))).run Try.prog w = .ok true w := eqT_same c1
          obtain rfl : c2 = c1 := HSAME
          clear hg1 hg2 hc1 hc2 hLj hMj ho1
          have k3 := heap_past wr (.cells (encT c2) 28) _ _ k1
          have k4 := heap_new wr (.cells (encT c2) 28) _ rfl
          have B6 := hb.alloc hb.size (.cells (encT c2) 28)
          have ne2 := Later.ne (wr.alloc (.cells (encT c2) 28))
          go_wp2_with (first
            | (refine wl_loadE (E := TokE) TokOk rfl _ rfl g2 (off2 + j * 4) rfl cur2 t2 fr2 (encT c2) rfl k2 H2.out ?_)
            | (refine wl_storeE (E := TokE) TokOk rfl _ _ rfl wr.heap.size (encT c2) (tv_fits _ _ _ _) rfl rfl _ (heap_new _ _ _ rfl) rfl _ (setRow_new _ _ _ _ _ rfl) ?_))
          refine wp_region_later (by kernel_rfl) (by kernel_rfl) ?_
          refine qlE (E := TokE) TokOk rfl _ rfl wr.heap.size 0 rfl _ _ _ (encT c2) rfl (later_block k4) (own_cells _ _) ?_
          simp only [Act.put, List.setIfInBounds_toArray, List.set_cons_succ, List.set_cons_zero]
          go_big_quiet_step (fail)
          go_big_quiet_step (fail)
          go_big_quiet_step (fail)
          refine qlE (E := TokE) TokOk rfl _ rfl g (off + j * 4) rfl cur1 t1 fr1 (encT c2) rfl (later_block k3) H1.out ?_
          simp only [Act.put, List.setIfInBounds_toArray, List.set_cons_succ, List.set_cons_zero]
          go_big_quiet_step (fail)
          refine wpQuiet_nil ?_
          rintro w' ⟨u, rfl⟩
          have hb6 := B6.trans (u.below.mono B6.size)
          go_wp2_with fail
          go_roundw
          case rel => exact ⟨j + 1, by omega, by go_num, hb6⟩
          case measure => simp [intOf]; omega
      · have B5 := B4.trans (hb.mono B4.size)
        have hlt' : (n : Int) ≤ (j : Int) := by omega
        clear hlt
        go_wp2_with fail
        go_ret
        exact ⟨rfl, B5⟩
  · have hbd : (b ++ (⟨#[10]⟩ : ByteArray)).data.toList = b.data.toList ++ [10] := by rw [ByteArray.data_append, Array.toList_append]
    have hbz : (b ++ (⟨#[10]⟩ : ByteArray)).size = b.size + 1 := by rw [ByteArray.size_append]; rfl
    obtain ⟨M, hM⟩ : ∃ M, M = putL L k p b.size := ⟨_, rfl⟩
    have HKL : Hid (k ≤ L.length) := by show k ≤ L.length; have := HN.out; omega
    have HML1 : Hid (∀ i, i < k → M[i]? = L[i]?) := fun i hi => by rw [hM]; exact putL_ahead L k p b.size HKL.out i hi
    have HML2 : Hid (∀ i, k ≤ i → ∀ t, L[i]? = some t → M[i + 1]? = some (sh (b.size + 1) t)) := fun i hi t ht => by rw [hM]; exact putL_behind L k p b.size HKL.out i hi t ht
    have C3 : Hid (∀ W, Calls Try.prog 8 #[.string (s.extract 0 p ++ (b ++ ⟨#[10]⟩) ++ s.extract p s.size)] W fun e w' => ∃ u, e = .returned (.tuple #[u, .int .i64 0, .int .i64 0]) ∧ w'.ownsRow W.heap.size 28 4 u M.length (gcells encT M) ∧ Below W.heap.size W w') := fun W => by
      have hz : (s.extract 0 p ++ (b ++ ⟨#[10]⟩) ++ s.extract p s.size).size ≤ 4096 := by rw [ByteArray.size_append, ByteArray.size_append, hz1, hz2, hbz]; omega
      have e : (s.extract 0 p ++ (b ++ ⟨#[10]⟩) ++ s.extract p s.size).data.toList = s.data.toList.take c.pos ++ (b.data.toList ++ 10 :: s.data.toList.drop c.pos) := by
        rw [ByteArray.data_append, ByteArray.data_append, Array.toList_append, Array.toList_append, hd1, hd2, hbd, HP.out]
        simp
      have hl := lex_put b.data.toList HW2.out (fun h => hb0 (by rw [Lib.size_eq, h]; rfl)) s.data.toList L HW.out k c HLK.out
      rw [← e, ← HP.out, ← Lib.size_eq] at hl
      have := TK.out _ (Nat.le_trans hz (by unfold maxLen; decide)) W
      rw [lexT_of (by rw [← Lib.size_eq]; exact hz) hl] at this
      rw [hM]
      exact this
    obtain ⟨m, hm⟩ : ∃ m, m = M.length := ⟨_, rfl⟩
    have HMN : Hid (m = n + 1) := by show m = n + 1; rw [hm, hM, putL_len L k p b.size HKL.out, HN.out]
    have hmn : m ≤ 4097 := by have := HMN.out; omega
    have emn : ((m : Int) != (n : Int) + 1) = false := by have := HMN.out; simp; omega
    have hmn2 : (m : Int) - (n : Int) = 1 := by have := HMN.out; omega
    have hb0' : (b.size : Int) > 0 := by omega
    have HPL : Hid (∀ i (t : Tok), L[i]? = some t → t.pos < s.size) := fun i t ht => by
      rw [Lib.size_eq]
      have := (lexW_places _ _ _ HW.out).1 i t ht
      omega
    obtain ⟨bl, hbl⟩ : ∃ bl, bl = b ++ (⟨#[10]⟩ : ByteArray) := ⟨_, rfl⟩
    rw [← hbl] at C3 hbz
    have HBL : Hid (bl = b ++ (⟨#[10]⟩ : ByteArray)) := hbl
    have HD : Hid (bl.size = b.size + 1) := hbz
    clear hM hbl HW HW2 TK hd1 hd2 hbd hbz
    have hbl0 : (bl.size : Int) > 0 := by have := HD.out; omega
    have hbl1 : ((bl.size : Int) == 0) = false := by have := HD.out; simp only [beq_eq_false_iff_ne, ne_eq]; omega
    have hbl2 : bl.size ≤ 501 := by have := HD.out; omega
    go_wp2_with fail
    rw [← HBL.out]
    have ne1 := Later.ne w3
    refine region_cut (fun a a' w' => ∃ u y72 y73 y74 y75 y76 y77 y78 y79 y80 y81 y82 y83 y84 y85, a' = (((((((((((((((((a.put (some 14) u).put (some 15) (.int .i64 0)).put (some 16) (.int .i64 0)).put (some 72) y72).put (some 73) y73).put (some 74) y74).put (some 75) y75).put (some 76) y76).put (some 77) y77).put (some 78) y78).put (some 79) y79).put (some 80) y80).put (some 81) y81).put (some 82) y82).put (some 83) y83).put (some 84) y84).put (some 85) y85) ∧ GSl TokE encT w' u M ∧ Below w3.heap.size w3 w') ?_ ?_
    · refine region_begin 17 rfl (by kernel_rfl) ?_
      have hW0 : Below w3.heap.size w3 w3.drew := (Below.refl _ _).drew
      refine region_reads 0 9 8 rfl (by kernel_rfl) (by kernel_rfl) (by kernel_rfl) (by intro d v c a w h; exact absurd h.1 (by simp)) ⟨⟨w3.drew, hW0⟩, rfl⟩ ?_
      simp only [List.drop_zero, List.take_succ_cons, List.take_zero]
      repeat go_big_quiet_step (fail)
      refine wpQuiet_nil ?_
      refine wpAnyH_all (rs := [9]) (by kernel_rfl) (by decide) ?_
      intro i hi
      obtain rfl := List.mem_singleton.1 hi
      refine wpOp_call rfl rfl 8 #[.tmp 81] (by intro b w; have hf := Try.func8; simp [go_sem]) #[.string (s.extract 0 p ++ bl ++ s.extract p s.size)] rfl (fun v w' => ∃ u, v = .tuple #[u, .int .i64 0, .int .i64 0] ∧ GSl TokE encT w' u M ∧ Below w3.drew.heap.size w3.drew w') ((C3.out _).mono fun e w' ⟨u, h1, h2, h3⟩ => ⟨_, h1, u, rfl, gsl_of (E := TokE) h2 fun c _ => rfl, h3⟩) (some 82) rfl ?_
      rintro v x3 ⟨u, rfl, hG, hx3⟩
      have hW4 : Below w3.heap.size w3 x3 := hW0.trans (hx3.mono hW0.size)
      refine ⟨⟨⟨x3, hW4⟩, rfl⟩, ?_⟩
      simp only [Act.put, List.setIfInBounds_toArray, List.set_cons_succ, List.set_cons_zero]
      refine region_reads 10 7 0 rfl (by kernel_rfl) (by kernel_rfl) (by kernel_rfl) (by intro d v c a w h; exact absurd h.1 (by simp)) ⟨⟨x3, hW4⟩, rfl⟩ ?_
      simp only [List.drop_succ_cons, List.drop_zero, List.take_succ_cons, List.take_zero]
      repeat go_big_quiet_step (fail)
      refine wpQuiet_nil ?_
      refine wpAnyH_done (by kernel_rfl) ?_ _
      exact ⟨rfl, _, _, _, _, _, _, _, _, _, _, _, _, _, _, _, rfl, hG, hW4⟩
    rintro a' w4 ⟨um, y72, y73, y74, y75, y76, y77, y78, y79, y80, y81, y82, y83, y84, y85, rfl, hGM, hb4⟩
    simp only [Act.put, List.setIfInBounds_toArray, List.set_cons_succ, List.set_cons_zero]
    obtain ⟨om, capm, rfl, _, hcapm⟩ := hGM.slice
    have HG4 : Hid (GSl TokE encT w4 (.slice (some ⟨g, off, none⟩) n cap) L) := HG2.out.below hb4
    rw [← hm] at hGM ⊢
    have HGM : Hid (GSl TokE encT w4 (.slice om m capm) M) := hGM
    have B4 := B3.trans (hb4.mono B3.size)
    clear hGM hb4 HG2 hm C3
    go_wp2_with fail
    go_loopw [17] (fun i wr => ∃ j : Nat, j ≤ n ∧ i = .int .i64 (j : Int) ∧ Below w4.heap.size w4 wr) (fun i _ => n - (intOf i).toNat)
    case atStart => exact ⟨0, Nat.zero_le _, rfl, Below.refl _ _⟩
    case round =>
      obtain ⟨j, hj, rfl, hb⟩ := hrel
      by_cases hlt : j < n
      · obtain ⟨g1, off1, cur1, t1, fr1, c1, ho1, hg1, hc1, hLj⟩ := HG4.out.at j hlt
        obtain ⟨rfl, rfl⟩ : g = g1 ∧ off = off1 := by simpa using ho1
        obtain ⟨g2, off2, cur2, t2, fr2, c2, rfl, hg2, hc2, hMj⟩ := HGM.out.at j (by have := HMN.out; omega)
        have k1 : wr.heap[g]? = some (.cells cur1 t1 fr1) := (hb.block g (Array.getElem?_eq_some_iff.1 hg1).1).trans hg1
        have k2 : wr.heap[g2]? = some (.cells cur2 t2 fr2) := (hb.block g2 (Array.getElem?_eq_some_iff.1 hg2).1).trans hg2
        have H1 : Hid (∀ i, i < 4 → cur1[off + j * 4 + i]? = (encT c1)[i]?) := hc1
        have H2 : Hid (∀ i, i < 4 → cur2[off2 + j * 4 + i]? = (encT c2)[i]?) := hc2
        have eg : ∀ op x y (xs ys : Array Value) w, (eqGuard op 28 x y (.agg xs) (.agg ys)).run Try.prog w = .ok () w := egT
        have hlt' : (j : Int) < (n : Int) := by omega
        have hz4 := hb.size
        have hjm : (j : Int) < (m : Int) := by have := HMN.out; omega
        by_cases hjk : k ≤ j
        · have hjk' : (j : Int) ≥ (k : Int) := by omega
          obtain ⟨g3, off3, cur3, t3, fr3, c3, ho3, hg3, hc3, hMj1⟩ := HGM.out.at (j + 1) (by have := HMN.out; omega)
          obtain ⟨rfl, rfl⟩ : g2 = g3 ∧ off2 = off3 := by simpa using ho3
          rw [hg2] at hg3
          obtain ⟨rfl, rfl, rfl⟩ : cur2 = cur3 ∧ t2 = t3 ∧ fr2 = fr3 := by simpa using hg3
          have hsh := HML2.out j hjk c1 hLj
          rw [hMj1] at hsh
          obtain rfl := Option.some.inj hsh
          obtain ⟨kd, pp, tx, nm⟩ := c1
          have hpp : pp < s.size := by
            have := HPL.out j _ hLj
            exact this
          rw [show b.size + 1 = bl.size from HD.out.symm] at hc3
          obtain ⟨q, hq⟩ : ∃ q : Nat, q = pp + bl.size := ⟨_, rfl⟩
          have hc3' : ∀ i, i < 4 → cur2[off2 + (1 + j) * 4 + i]? = (tv (kd : Nat) (q : Int) ⟨tx.toArray⟩ (nm : Nat))[i]? := by rw [Nat.add_comm 1 j, hq]; exact hc3
          have H3 : Hid (∀ i, i < 4 → cur2[off2 + (1 + j) * 4 + i]? = (tv (kd : Nat) (q : Int) ⟨tx.toArray⟩ (nm : Nat))[i]?) := hc3'
          have hq2 : (q : Int) - (bl.size : Int) = (pp : Int) := by omega
          have hq3 : q ≤ 10000 := by omega
          clear hq
          have k2' := heap_past wr (.cells (encT c2) 28) _ _ k2
          have H1' : Hid (∀ i, i < 4 → cur1[off + j * 4 + i]? = (tv (kd : Nat) (pp : Int) ⟨tx.toArray⟩ (nm : Nat))[i]?) := hc1
          have e1 : ∀ w, (Op.equalIn 10000 28 (.agg (tv (kd : Nat) (pp : Int) ⟨tx.toArray⟩ (nm : Nat))) (.agg (tv (kd : Nat) (pp : Int) ⟨tx.toArray⟩ (nm : Nat)))).run Try.prog w = .ok true w := eqT_same ⟨kd, pp, tx, nm⟩
          have cf : (wr.alloc (.cells (tv (kd : Nat) (q : Int) ⟨tx.toArray⟩ (nm : Nat)) 28)).cell? ⟨wr.heap.size, 1, none⟩ = some (.int .i64 (q : Int)) := by
            rw [cell_of_row _ _ _ _ _ _ (heap_new _ _ _ rfl)]; rfl
          clear hg1 hg2 hg3 hc1 hc2 hc3 hc3' hLj hMj hMj1 ho1 ho3 H1
          go_wp2_with (first
            | (refine wl_loadE (E := TokE) TokOk rfl _ rfl g2 (off2 + j * 4) rfl cur2 t2 fr2 (encT c2) rfl k2 H2.out ?_)
            | (refine wl_storeE (E := TokE) TokOk rfl _ _ rfl wr.heap.size (encT c2) (tv_fits _ _ _ _) rfl rfl _ (heap_new _ _ _ rfl) rfl _ (setRow_new _ _ _ _ _ rfl) ?_)
            | (refine wl_loadE (E := TokE) TokOk rfl _ rfl g2 (off2 + (1 + j) * 4) rfl cur2 t2 fr2 (tv (kd : Nat) (q : Int) ⟨tx.toArray⟩ (nm : Nat)) rfl k2' H3.out ?_)
            | (refine wl_storeE (E := TokE) TokOk rfl _ _ rfl wr.heap.size (tv (kd : Nat) (q : Int) ⟨tx.toArray⟩ (nm : Nat)) (tv_fits _ _ _ _) rfl rfl _ (heap_new _ _ _ rfl) rfl _ (setRow_new _ _ _ _ _ rfl) ?_))
          have k3 := heap_past wr (.cells ((tv (kd : Nat) (q : Int) ⟨tx.toArray⟩ (nm : Nat)).setIfInBounds 1 (.int .i64 (pp : Int))) 28) _ _ k1
          have k4 := heap_new wr (.cells ((tv (kd : Nat) (q : Int) ⟨tx.toArray⟩ (nm : Nat)).setIfInBounds 1 (.int .i64 (pp : Int))) 28) _ rfl
          have B6 := hb.alloc hb.size (.cells ((tv (kd : Nat) (q : Int) ⟨tx.toArray⟩ (nm : Nat)).setIfInBounds 1 (.int .i64 (pp : Int))) 28)
          have ne2 := Later.ne (wr.alloc (.cells ((tv (kd : Nat) (q : Int) ⟨tx.toArray⟩ (nm : Nat)).setIfInBounds 1 (.int .i64 (pp : Int))) 28))
          refine wp_region_later (by kernel_rfl) (by kernel_rfl) ?_
          refine qlE (E := TokE) TokOk rfl _ rfl wr.heap.size 0 rfl _ _ _ (tv (kd : Nat) (pp : Int) ⟨tx.toArray⟩ (nm : Nat)) rfl (later_block k4) (own_cells _ _) ?_
          simp only [Act.put, List.setIfInBounds_toArray, List.set_cons_succ, List.set_cons_zero]
          go_big_quiet_step (fail)
          go_big_quiet_step (fail)
          go_big_quiet_step (fail)
          refine qlE (E := TokE) TokOk rfl _ rfl g (off + j * 4) rfl cur1 t1 fr1 (tv (kd : Nat) (pp : Int) ⟨tx.toArray⟩ (nm : Nat)) rfl (later_block k3) H1'.out ?_
          simp only [Act.put, List.setIfInBounds_toArray, List.set_cons_succ, List.set_cons_zero]
          go_big_quiet_step (fail)
          refine wpQuiet_nil ?_
          rintro w' ⟨u, rfl⟩
          have hb6 := B6.trans (u.below.mono B6.size)
          go_wp2_with fail
          go_roundw
          case rel => exact ⟨j + 1, by omega, by go_num, hb6⟩
          case measure => simp [intOf]; omega
        · have hjk' : ¬ (j : Int) ≥ (k : Int) := by omega
          have HSAME : c2 = c1 := by
            rw [HML1.out j (by omega), hLj] at hMj
            exact (Option.some.inj hMj).symm
          have e1 : ∀ w, (Op.equalIn 10000 28 (.agg (encT c1)) (.agg (encT c1))).run Try.prog w = .ok true w := eqT_same c1
          obtain rfl : c2 = c1 := HSAME
          clear hg1 hg2 hc1 hc2 hLj hMj ho1
          have k3 := heap_past wr (.cells (encT c2) 28) _ _ k1
          have k4 := heap_new wr (.cells (encT c2) 28) _ rfl
          have B6 := hb.alloc hb.size (.cells (encT c2) 28)
          have ne2 := Later.ne (wr.alloc (.cells (encT c2) 28))
          go_wp2_with (first
            | (refine wl_loadE (E := TokE) TokOk rfl _ rfl g2 (off2 + j * 4) rfl cur2 t2 fr2 (encT c2) rfl k2 H2.out ?_)
            | (refine wl_storeE (E := TokE) TokOk rfl _ _ rfl wr.heap.size (encT c2) (tv_fits _ _ _ _) rfl rfl _ (heap_new _ _ _ rfl) rfl _ (setRow_new _ _ _ _ _ rfl) ?_))
          refine wp_region_later (by kernel_rfl) (by kernel_rfl) ?_
          refine qlE (E := TokE) TokOk rfl _ rfl wr.heap.size 0 rfl _ _ _ (encT c2) rfl (later_block k4) (own_cells _ _) ?_
          simp only [Act.put, List.setIfInBounds_toArray, List.set_cons_succ, List.set_cons_zero]
          go_big_quiet_step (fail)
          go_big_quiet_step (fail)
          go_big_quiet_step (fail)
          refine qlE (E := TokE) TokOk rfl _ rfl g (off + j * 4) rfl cur1 t1 fr1 (encT c2) rfl (later_block k3) H1.out ?_
          simp only [Act.put, List.setIfInBounds_toArray, List.set_cons_succ, List.set_cons_zero]
          go_big_quiet_step (fail)
          refine wpQuiet_nil ?_
          rintro w' ⟨u, rfl⟩
          have hb6 := B6.trans (u.below.mono B6.size)
          go_wp2_with fail
          go_roundw
          case rel => exact ⟨j + 1, by omega, by go_num, hb6⟩
          case measure => simp [intOf]; omega
      · have B5 := B4.trans (hb.mono B4.size)
        have hlt' : (n : Int) ≤ (j : Int) := by omega
        clear hlt
        go_wp2_with fail
        go_ret
        exact ⟨rfl, B5⟩
end Go.Proofs.Ytgbmfifalfedbaa
