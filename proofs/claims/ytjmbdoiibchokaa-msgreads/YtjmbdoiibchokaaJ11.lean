import Derived.Test.YtjmbdoiibchokaaJ10
import Derived.Deep.QuietTactic
import Derived.Test.YtjmbdoiibchokaaJ9
namespace Go.Proofs.Ytjmbdoiibchokaa
open Go Go.Lib Go.RowKit
set_option maxRecDepth 20000

/-! The reference's Has, Size. -/
def hasK (k : Int) (f : Nat) : Bool := (fldK k).contains f
theorem hasK_iff (k : Int) (f : Nat) : hasK k f = true ↔ f ∈ fldK k := by unfold hasK; rw [List.contains_iff_mem]
set_option maxHeartbeats 4000000 in
theorem r16has_any (k : Int) (f : Nat) (hf : f < 15) (w : World) : Calls Try.prog 22 #[.int .i64 k, .int .u8 ((letN f : Nat) : Int)] w fun e w' => e = .returned (.bool (hasK k f)) ∧ w' = w := by
  have CF : Hid (∀ W, Calls Try.prog 20 #[.int .i64 k] W fun e w' => e = .returned (.string (strB k)) ∧ w' = W) := fun W => r16fields_any k W
  have HIX : Hid (∀ (i j : Nat), (fldK k)[i]? = some j → ∀ W, (Instr.index 9 (.string (strB k)) (.int .i64 (i : Int))).run Try.prog W = .ok (.int .u8 ((letN j : Nat) : Int)) W) := fun i j h W => ix16 h W
  obtain ⟨s, hs⟩ : ∃ s, s = strB k := ⟨_, rfl⟩
  obtain ⟨n, hn⟩ : ∃ n, n = (fldK k).length := ⟨_, rfl⟩
  have HN : Hid (n = (fldK k).length) := hn
  have hsz : s.size = n := by rw [hs, hn, strB_size]
  have hn8 : n ≤ 8 := by rw [hn]; exact fld_len k
  rw [← hs] at CF HIX
  obtain ⟨q, hq⟩ : ∃ q : Int, q = ((letN f : Nat) : Int) := ⟨_, rfl⟩
  have HQ : Hid (∀ j, j ∈ fldK k → (((letN j : Nat) : Int) == q) = decide (j = f)) := fun j hj => by rw [hq]; exact letN_beq (fldK_lt k j hj) hf
  rw [← hq]
  clear hs hn hq
  go_enter Try.func22, Try.ntmps22
  go_wp2_with (first
    | (go_at_call 20; refine (CF.out _).mono ?_; rintro e w1 ⟨rfl, rfl⟩))
  go_loop [6] (fun i => ∃ p : Nat, p ≤ n ∧ i = .int .i64 (p : Int) ∧ f ∉ (fldK k).take p) (fun i => n - (intOf i).toNat)
  case atStart => exact ⟨0, Nat.zero_le _, rfl, by simp⟩
  case round =>
    obtain ⟨p, hp, rfl, hnot⟩ := hrel
    have HNOT : Hid (f ∉ (fldK k).take p) := hnot
    clear hnot
    by_cases hlt : p < n
    · obtain ⟨j, hj⟩ : ∃ j, (fldK k)[p]? = some j := ⟨_, List.getElem?_eq_getElem (by rw [← HN.out]; exact hlt)⟩
      have hix := HIX.out p j hj
      have hqq := HQ.out j (List.mem_of_getElem? hj)
      obtain ⟨c, hc⟩ : ∃ c : Int, c = ((letN j : Nat) : Int) := ⟨_, rfl⟩
      rw [← hc] at hix hqq
      have HJ : Hid ((fldK k)[p]? = some j) := hj
      clear hc hj
      by_cases he : j = f
      · rw [decide_eq_true he] at hqq
        have HR : Hid (hasK k f = true) := by
          show _ = _
          rw [hasK_iff, ← he]
          exact List.mem_of_getElem? HJ.out
        clear he
        go_wp2_with fail
        go_ret
        rw [HR.out]
        exact ⟨rfl, rfl⟩
      · rw [decide_eq_false he] at hqq
        have HR : Hid (f ∉ (fldK k).take (p + 1)) := by
          show ¬ _
          rw [List.take_add_one, HJ.out, List.mem_append]
          rintro (h | h)
          · exact HNOT.out h
          · have h2 : f = j := by simpa using h
            exact he h2.symm
        clear he
        go_wp2_with fail
        go_round
        case rel => exact ⟨p + 1, by omega, by go_num, HR.out⟩
        case measure => simp [intOf]; omega
    · obtain rfl : p = n := by omega
      have HR : Hid (hasK k f = false) := by
        have := HNOT.out
        rw [HN.out, List.take_length] at this
        show _ = _
        rw [← Bool.not_eq_true, hasK_iff]
        exact this
      go_wp2_with fail
      go_ret
      rw [HR.out]
      exact ⟨rfl, rfl⟩
theorem sum_take {k : Int} {p j : Nat} (hj : (fldK k)[p]? = some j) : (((fldK k).take (p + 1)).map sizeF).sum = (((fldK k).take p).map sizeF).sum + sizeF j := by
  rw [List.take_add_one, hj]
  simp
theorem sum_le (k : Int) (p : Nat) : (((fldK k).take p).map sizeF).sum ≤ 8 * 26 := by
  have h : ∀ l : List Nat, (l.map sizeF).sum ≤ l.length * 26 := fun l => by
    induction l with
    | nil => simp
    | cons a l ih =>
      have : sizeF a ≤ 26 := by unfold sizeF; split <;> (try split) <;> omega
      simp only [List.map_cons, List.sum_cons, List.length_cons]
      omega
  have h1 := h ((fldK k).take p)
  have h2 := fld_len k
  rw [List.length_take] at h1
  have : min p (fldK k).length ≤ 8 := by omega
  omega
set_option maxHeartbeats 4000000 in
theorem r16size_any (k : Int) (w : World) : Calls Try.prog 32 #[.int .i64 k] w fun e w' => e = .returned (.int .i64 ((sizeK k : Nat) : Int)) ∧ w' = w := by
  have CF : Hid (∀ W, Calls Try.prog 20 #[.int .i64 k] W fun e w' => e = .returned (.string (strB k)) ∧ w' = W) := fun W => r16fields_any k W
  have HIX : Hid (∀ (i j : Nat), (fldK k)[i]? = some j → ∀ W, (Instr.index 9 (.string (strB k)) (.int .i64 (i : Int))).run Try.prog W = .ok (.int .u8 ((letN j : Nat) : Int)) W) := fun i j h W => ix16 h W
  obtain ⟨s, hs⟩ : ∃ s, s = strB k := ⟨_, rfl⟩
  obtain ⟨n, hn⟩ : ∃ n, n = (fldK k).length := ⟨_, rfl⟩
  have HN : Hid (n = (fldK k).length) := hn
  have hsz : s.size = n := by rw [hs, hn, strB_size]
  have hn8 : n ≤ 8 := by rw [hn]; exact fld_len k
  rw [← hs] at CF HIX
  clear hs hn
  go_enter Try.func32, Try.ntmps32
  go_wp2_with (first
    | (go_at_call 20; refine (CF.out _).mono ?_; rintro e w1 ⟨rfl, rfl⟩))
  go_loop [4, 5] (fun a i => ∃ p : Nat, p ≤ n ∧ i = .int .i64 (p : Int) ∧ ∃ q : Nat, q = (((fldK k).take p).map sizeF).sum ∧ a = .int .i64 (q : Int)) (fun _ i => n - (intOf i).toNat)
  case atStart => exact ⟨0, Nat.zero_le _, rfl, 0, rfl, rfl⟩
  case round =>
    obtain ⟨p, hp, rfl, q, hq, rfl⟩ := hrel
    have HQ : Hid (q = (((fldK k).take p).map sizeF).sum) := hq
    have hq2 : q ≤ 208 := by rw [hq]; exact sum_le k p
    clear hq
    by_cases hlt : p < n
    · obtain ⟨j, hj⟩ : ∃ j, (fldK k)[p]? = some j := ⟨_, List.getElem?_eq_getElem (by rw [← HN.out]; exact hlt)⟩
      have hix := HIX.out p j hj
      have hj15 := fldK_lt k j (List.mem_of_getElem? hj)
      have h13 : (((letN j : Nat) : Int) == 67) = decide (j = 13) := letN_beq (j := 13) hj15 (by decide)
      have h14 : (((letN j : Nat) : Int) == 72) = decide (j = 14) := letN_beq (j := 14) hj15 (by decide)
      obtain ⟨c, hc⟩ : ∃ c : Int, c = ((letN j : Nat) : Int) := ⟨_, rfl⟩
      rw [← hc] at hix h13 h14
      have HS : Hid ((((fldK k).take (p + 1)).map sizeF).sum = q + sizeF j) := by show _ = _; rw [sum_take hj, HQ.out]
      clear hc hj
      by_cases e13 : j = 13
      · rw [decide_eq_true e13] at h13
        have HS2 : Hid ((((fldK k).take (p + 1)).map sizeF).sum = q + 26) := by show _ = _; rw [HS.out, e13]; rfl
        clear e13 h14
        go_wp2_with fail
        go_round
        case rel => exact ⟨p + 1, by omega, by go_num, q + 26, HS2.out.symm, by go_num⟩
        case measure => simp [intOf]; omega
      · rw [decide_eq_false e13] at h13
        by_cases e14 : j = 14
        · rw [decide_eq_true e14] at h14
          have HS2 : Hid ((((fldK k).take (p + 1)).map sizeF).sum = q + 13) := by show _ = _; rw [HS.out, e14]; rfl
          clear e13 e14
          go_wp2_with fail
          go_round
          case rel => exact ⟨p + 1, by omega, by go_num, q + 13, HS2.out.symm, by go_num⟩
          case measure => simp [intOf]; omega
        · rw [decide_eq_false e14] at h14
          have HS2 : Hid ((((fldK k).take (p + 1)).map sizeF).sum = q + 6) := by show _ = _; rw [HS.out, sizeF_num (by omega)]
          clear e13 e14
          go_wp2_with fail
          go_round
          case rel => exact ⟨p + 1, by omega, by go_num, q + 6, HS2.out.symm, by go_num⟩
          case measure => simp [intOf]; omega
    · obtain rfl : p = n := by omega
      have HR : Hid (q = sizeK k) := by
        have := HQ.out
        rw [HN.out, List.take_length] at this
        exact this
      go_wp2_with fail
      go_ret
      rw [← HR.out]
      exact ⟨rfl, rfl⟩
end Go.Proofs.Ytjmbdoiibchokaa
namespace Go.Proofs.Ytjmbdoiibchokaa
open Go Go.Lib Go.RowKit
set_option maxRecDepth 20000

/-! The reference's Right. -/
abbrev lettersB : ByteArray := { data := #[105, 101, 102, 97, 116, 111, 114, 49, 50, 115, 117, 113, 108] }
theorem ixL (p : Nat) (hp : p < 13) (W : World) : (Instr.index 9 (.string lettersB) (.int .i64 (p : Int))).run Try.prog W = .ok (.int .u8 ((letN p : Nat) : Int)) W := by
  have hs : p < lettersB.size := hp
  have e : (lettersB[p].toNat : Nat) = letN p := by
    have h1 : ∀ q : Fin 13, (lettersB[q.1]'(q.2)).toNat = letN q.1 := by decide
    exact h1 ⟨p, hp⟩
  rw [← e]
  have hp' : (p : Int) < 13 := by omega
  simp [go_sem, Try.underlying9, hp']
def okJ (m : MsgM) (j : Nat) : Bool := decide (0 ≤ numM m j) && decide (numM m j ≤ 281474976710655) && (numM m j == 0 || hasK m.kind j)
theorem right_form (m : MsgM) : rightM m = (!(fldK m.kind).isEmpty && (List.range 13).all (okJ m) && cubR m && ((m.cube.1 == Z && m.cube.2 == Z) || hasK m.kind 13) && (m.head == Z || hasK m.kind 14)) := rfl
theorem str_empty (k : Int) : (strB k).data.toList = [] ↔ fldK k = [] := by
  unfold strB strK
  simp
theorem Calls.later_same16 {P : Program} {f : FuncId} {args : Array Value} {W : World} {u : Later W} {v : Value}
    (h : Calls P f args u.world fun e w' => e = .returned v ∧ w' = u.world) : Calls P f args u.world fun e w'' => e = .returned v ∧ ∃ u' : Later W, w'' = u'.world :=
  h.mono fun _ _ ⟨he, hb⟩ => ⟨he, u, hb⟩
set_option maxHeartbeats 16000000 in
theorem r16right_any (m : MsgM) (hm : okM m) (w : World) : Calls Try.prog 10 #[.agg (msA m)] w fun e w' => e = .returned (.bool (rightM m)) ∧ Below w.heap.size w w' := by
  have CF : Hid (∀ W, Calls Try.prog 20 #[.int .i64 m.kind] W fun e w' => e = .returned (.string (strB m.kind)) ∧ w' = W) := fun W => r16fields_any m.kind W
  obtain ⟨w1, hw1⟩ : ∃ w1, w1 = w.alloc (.cells (msA m) 27) := ⟨_, rfl⟩
  have g1 : w1.heap[w.heap.size]? = some (.cells (msA m) 27 (0, 0)) := by rw [hw1]; exact heap_new _ _ _ rfl
  have B1 : Below w.heap.size w w1 := by rw [hw1]; exact (Below.refl _ _).alloc (Nat.le_refl _) _
  have c0 : w1.cell? ⟨w.heap.size, 0, none⟩ = some (.int .i64 m.kind) := by rw [cell_of_row _ _ _ _ _ _ g1, ms_kind]
  have hms := msA_size hm
  rw [hw1] at c0
  by_cases hk : fldK m.kind = []
  · have HR : Hid (rightM m = false) := right_none hk
    have hse : (strB m.kind).toList.isEmpty = true := by rw [ByteArray.toList_eq, (str_empty _).2 hk]; rfl
    obtain ⟨s, hs⟩ : ∃ s, s = strB m.kind := ⟨_, rfl⟩
    rw [← hs] at CF hse
    clear hs
    go_enter Try.func10, Try.ntmps10
    go_wp2_with fail
    rw [← hw1]
    refine (CF.out _).mono ?_
    rintro e w2 ⟨rfl, hw2⟩
    obtain rfl := hw2.symm
    go_wp2_with fail
    go_ret
    rw [HR.out]
    exact ⟨rfl, by first | exact B1 | (rw [← hw1]; exact B1)⟩
  · have hse : (strB m.kind).toList.isEmpty = false := by
      rw [ByteArray.toList_eq]
      cases e : (strB m.kind).data.toList with
      | nil => exact absurd ((str_empty _).1 e) hk
      | cons a l => rfl
    have hne : (fldK m.kind).isEmpty = false := by
      cases e : fldK m.kind with
      | nil => exact absurd e hk
      | cons a l => rfl
    have HRF : Hid (rightM m = ((List.range 13).all (okJ m) && cubR m && ((m.cube.1 == Z && m.cube.2 == Z) || hasK m.kind 13) && (m.head == Z || hasK m.kind 14))) := by
      show _ = _
      rw [right_form, hne]
      rfl
    have HNO : Hid (∀ j, j < 13 → okJ m j = false → rightM m = false) := fun j hj h => by
      rw [HRF.out]
      have : (List.range 13).all (okJ m) = false := by
        rw [← Bool.not_eq_true, List.all_eq_true]
        intro h2
        have := h2 j (List.mem_range.2 hj)
        rw [h] at this
        cases this
      rw [this]
      rfl
    have HH : Hid (∀ (f : Nat), f < 15 → ∀ W, Calls Try.prog 22 #[.int .i64 m.kind, .int .u8 ((letN f : Nat) : Int)] W fun e w' => e = .returned (.bool (hasK m.kind f)) ∧ w' = W) := fun f hf W => r16has_any m.kind f hf W
    have HG : Hid (∀ (j : Nat), j < 13 → ∀ W, Calls Try.prog 21 #[.agg (msA m), .int .u8 ((letN j : Nat) : Int)] W fun e w' => e = .returned (.int .i64 (numM m j)) ∧ Below W.heap.size W w') := fun j hj W => r16get_any m hm j hj W
    obtain ⟨s, hs⟩ : ∃ s, s = strB m.kind := ⟨_, rfl⟩
    rw [← hs] at CF hse
    clear hs hk hne
    go_enter Try.func10, Try.ntmps10
    go_wp2_with fail
    rw [← hw1] at c0 ⊢
    clear hw1
    refine (CF.out _).mono ?_
    rintro e w2 ⟨rfl, hw2⟩
    obtain rfl := hw2.symm
    go_wp2_with fail
    clear hse c0
    go_loopw [3] (fun i W => ∃ p : Nat, p ≤ 13 ∧ i = .int .i64 (p : Int) ∧ (∀ j, j < p → okJ m j = true) ∧ W.heap[w.heap.size]? = some (.cells (msA m) 27 (0, 0)) ∧ Below w.heap.size w W) (fun i _ => 13 - (intOf i).toNat)
    case atStart => exact ⟨0, Nat.zero_le _, rfl, fun j hj => absurd hj (by omega), g1, B1⟩
    case round =>
      clear g1 B1
      obtain ⟨p, hp, rfl, hall, gk, hB⟩ := hrel
      have HALL : Hid (∀ j, j < p → okJ m j = true) := hall
      have hsz := (Array.getElem?_eq_some_iff.1 gk).1
      clear hall
      by_cases hlt : p < 13
      · have hix := ixL p hlt
        have CG : Hid (∀ W, Calls Try.prog 21 #[.agg (msA m), .int .u8 ((letN p : Nat) : Int)] W fun e w' => e = .returned (.int .i64 (numM m p)) ∧ Below W.heap.size W w') := HG.out p hlt
        have CH : Hid (∀ W, Calls Try.prog 22 #[.int .i64 m.kind, .int .u8 ((letN p : Nat) : Int)] W fun e w' => e = .returned (.bool (hasK m.kind p)) ∧ w' = W) := HH.out p (by omega)
        obtain ⟨q, hq⟩ : ∃ q : Int, q = ((letN p : Nat) : Int) := ⟨_, rfl⟩
        obtain ⟨x, hx⟩ : ∃ x, x = numM m p := ⟨_, rfl⟩
        have HX : Hid (x = numM m p) := hx
        obtain ⟨b, hb⟩ : ∃ b, b = hasK m.kind p := ⟨_, rfl⟩
        have HBB : Hid (b = hasK m.kind p) := hb
        rw [← hq] at hix CG CH
        rw [← hx] at CG
        rw [← hb] at CH
        clear hq hx hb
        have hpi : (p : Int) < 13 := by omega
        go_wp2_with fail
        have ne1 := Later.ne wr
        refine wp_region_later (by kernel_rfl) (by kernel_rfl) ?_
        refine qlA MsOk rfl _ rfl w.heap.size 0 rfl _ _ _ (msA m) hms (later_block gk) (own_cells _ _) ?_
        simp only [Act.put, List.setIfInBounds_toArray, List.set_cons_succ, List.set_cons_zero]
        go_big_quiet_step (fail)
        go_big_quiet_step (fail)
        go_big_quiet_want; go_big_quiet_op
        refine ⟨_, fun u => Calls.later_of (CG.out u.world), ?_⟩
        go_big_quiet_on
        go_big_quiet_step (fail)
        refine wpQuiet_nil ?_
        rintro w4 ⟨u, hu⟩
        have g4 : w4.heap[w.heap.size]? = some (.cells (msA m) 27 (0, 0)) := by rw [hu, u.below.block _ hsz]; exact gk
        have B4 : Below w.heap.size w w4 := by rw [hu]; exact hB.trans (u.below.mono hB.size)
        have hs4 := (Array.getElem?_eq_some_iff.1 g4).1
        clear hu u gk hB ne1
        have c4 : ∀ u : Later w4, u.world.cell? ⟨w.heap.size, 0, none⟩ = some (.int .i64 m.kind) := fun u => by
          rw [cell_of_row _ _ _ _ _ _ ((u.below.block _ hs4).trans g4), ms_kind]
        have ne4 := Later.ne w4
        by_cases h0 : x < 0
        · have d0 : decide (x < 0) = true := by simpa using h0
          have HF : Hid (rightM m = false) := HNO.out p hlt (by unfold okJ; rw [← HX.out, decide_eq_false (show ¬ 0 ≤ x by omega)]; rfl)
          clear h0
          go_wp2_with fail
          refine wp_region_later (by kernel_rfl) (by kernel_rfl) ?_
          go_big_quiet_step (fail)
          go_big_quiet_step (fail)
          go_big_quiet_step (fail)
          go_big_quiet_step (fail)
          go_big_quiet_step (fail)
          go_big_quiet_step (fail)
          go_big_quiet_step (fail)
          go_big_quiet_step (fail)
          go_big_quiet_step (fail)
          go_big_quiet_step (fail)
          go_big_quiet_step (fail)
          go_big_quiet_step (fail)
          go_big_quiet_step (fail)
          go_big_quiet_step (fail)
          go_big_quiet_step (fail)
          go_big_quiet_step (fail)
          go_big_quiet_step (fail)
          go_big_quiet_step (fail)
          refine wpQuiet_nil ?_
          rintro w5 ⟨u, hu⟩
          have HB5 : Hid (Below w.heap.size w w5) := by rw [hu]; exact B4.trans (u.below.mono B4.size)
          have HG5 : Hid (w5.heap[w.heap.size]? = some (.cells (msA m) 27 (0, 0))) := by rw [hu, u.below.block _ hs4]; exact g4
          clear hu u
          go_wp2_with fail
          go_ret
          rw [HF.out]
          exact ⟨rfl, HB5.out⟩
        · have d0 : decide (x < 0) = false := by simpa using h0
          by_cases h1 : 281474976710655 < x
          · have d1 : decide (281474976710655 < x) = true := by simpa using h1
            have HF : Hid (rightM m = false) := HNO.out p hlt (by unfold okJ; rw [← HX.out, decide_eq_false (show ¬ x ≤ 281474976710655 by omega), Bool.and_false]; rfl)
            clear h0 h1
            go_wp2_with fail
            refine wp_region_later (by kernel_rfl) (by kernel_rfl) ?_
            go_big_quiet_step (fail)
            go_big_quiet_step (fail)
            go_big_quiet_step (fail)
            go_big_quiet_step (fail)
            go_big_quiet_step (fail)
            go_big_quiet_step (fail)
            go_big_quiet_step (fail)
            go_big_quiet_step (fail)
            go_big_quiet_step (fail)
            go_big_quiet_step (fail)
            go_big_quiet_step (fail)
            go_big_quiet_step (fail)
            go_big_quiet_step (fail)
            go_big_quiet_step (fail)
            go_big_quiet_step (fail)
            go_big_quiet_step (fail)
            go_big_quiet_step (fail)
            go_big_quiet_step (fail)
            refine wpQuiet_nil ?_
            rintro w5 ⟨u, hu⟩
            have HB5 : Hid (Below w.heap.size w w5) := by rw [hu]; exact B4.trans (u.below.mono B4.size)
            have HG5 : Hid (w5.heap[w.heap.size]? = some (.cells (msA m) 27 (0, 0))) := by rw [hu, u.below.block _ hs4]; exact g4
            clear hu u
            go_wp2_with fail
            go_ret
            rw [HF.out]
            exact ⟨rfl, HB5.out⟩
          · have d1 : decide (281474976710655 < x) = false := by simpa using h1
            by_cases h2 : x = 0
            · have d2 : (x != 0) = false := by simp [h2]
              have HY : Hid (okJ m p = true) := by show _ = _; unfold okJ; rw [← HX.out, h2]; rfl
              clear h0 h1 h2
              go_wp2_with fail
              refine wp_region_later (by kernel_rfl) (by kernel_rfl) ?_
              go_big_quiet_step (fail)
              go_big_quiet_step (fail)
              go_big_quiet_step (fail)
              go_big_quiet_step (fail)
              go_big_quiet_step (fail)
              go_big_quiet_step (fail)
              go_big_quiet_step (fail)
              go_big_quiet_step (fail)
              go_big_quiet_step (fail)
              go_big_quiet_step (fail)
              go_big_quiet_step (fail)
              go_big_quiet_step (fail)
              go_big_quiet_step (fail)
              go_big_quiet_step (fail)
              go_big_quiet_step (fail)
              go_big_quiet_step (fail)
              go_big_quiet_step (fail)
              go_big_quiet_step (fail)
              refine wpQuiet_nil ?_
              rintro w5 ⟨u, hu⟩
              have HB5 : Hid (Below w.heap.size w w5) := by rw [hu]; exact B4.trans (u.below.mono B4.size)
              have HG5 : Hid (w5.heap[w.heap.size]? = some (.cells (msA m) 27 (0, 0))) := by rw [hu, u.below.block _ hs4]; exact g4
              clear hu u
              go_wp2_with fail
              go_roundw
              case rel => exact ⟨p + 1, by omega, by go_num, fun j hj => by
                  by_cases e : j < p
                  · exact HALL.out j e
                  · obtain rfl : j = p := by omega
                    exact HY.out, HG5.out, HB5.out⟩
              case measure => simp [intOf]; omega
            · have d2 : (x != 0) = true := by simp [h2]
              have d3 : (x == 0) = false := by simp [h2]
              cases b with
              | true =>
                have HY : Hid (okJ m p = true) := by
                  show _ = _
                  unfold okJ
                  rw [← HX.out, ← HBB.out, decide_eq_true (show 0 ≤ x by omega), decide_eq_true (show x ≤ 281474976710655 by omega), Bool.or_true]
                  rfl
                clear h0 h1 h2
                go_wp2_with fail
                refine wp_region_later (by kernel_rfl) (by kernel_rfl) ?_
                go_big_quiet_step (fail)
                go_big_quiet_step (fail)
                go_big_quiet_step (fail)
                go_big_quiet_step (fail)
                go_big_quiet_step (fail)
                go_big_quiet_step (fail)
                go_big_quiet_step (fail)
                go_big_quiet_step (fail)
                go_big_quiet_step (fail)
                go_big_quiet_step (fail)
                go_big_quiet_step (fail)
                go_big_quiet_step (fail)
                go_big_quiet_step (fail)
                go_big_quiet_step (fail)
                go_big_quiet_want; go_big_quiet_op
                refine ⟨_, fun u => Calls.later_same16 (CH.out u.world), ?_⟩
                go_big_quiet_on
                go_big_quiet_step (fail)
                go_big_quiet_step (fail)
                go_big_quiet_step (fail)
                refine wpQuiet_nil ?_
                rintro w5 ⟨u, hu⟩
                have HB5 : Hid (Below w.heap.size w w5) := by rw [hu]; exact B4.trans (u.below.mono B4.size)
                have HG5 : Hid (w5.heap[w.heap.size]? = some (.cells (msA m) 27 (0, 0))) := by rw [hu, u.below.block _ hs4]; exact g4
                clear hu u
                go_wp2_with fail
                go_roundw
                case rel => exact ⟨p + 1, by omega, by go_num, fun j hj => by
                    by_cases e : j < p
                    · exact HALL.out j e
                    · obtain rfl : j = p := by omega
                      exact HY.out, HG5.out, HB5.out⟩
                case measure => simp [intOf]; omega
              | false =>
                have HF : Hid (rightM m = false) := HNO.out p hlt (by unfold okJ; rw [← HX.out, ← HBB.out, d3]; simp)
                clear h0 h1 h2
                go_wp2_with fail
                refine wp_region_later (by kernel_rfl) (by kernel_rfl) ?_
                go_big_quiet_step (fail)
                go_big_quiet_step (fail)
                go_big_quiet_step (fail)
                go_big_quiet_step (fail)
                go_big_quiet_step (fail)
                go_big_quiet_step (fail)
                go_big_quiet_step (fail)
                go_big_quiet_step (fail)
                go_big_quiet_step (fail)
                go_big_quiet_step (fail)
                go_big_quiet_step (fail)
                go_big_quiet_step (fail)
                go_big_quiet_step (fail)
                go_big_quiet_step (fail)
                go_big_quiet_want; go_big_quiet_op
                refine ⟨_, fun u => Calls.later_same16 (CH.out u.world), ?_⟩
                go_big_quiet_on
                go_big_quiet_step (fail)
                go_big_quiet_step (fail)
                go_big_quiet_step (fail)
                refine wpQuiet_nil ?_
                rintro w5 ⟨u, hu⟩
                have HB5 : Hid (Below w.heap.size w w5) := by rw [hu]; exact B4.trans (u.below.mono B4.size)
                have HG5 : Hid (w5.heap[w.heap.size]? = some (.cells (msA m) 27 (0, 0))) := by rw [hu, u.below.block _ hs4]; exact g4
                clear hu u
                go_wp2_with fail
                go_ret
                rw [HF.out]
                exact ⟨rfl, HB5.out⟩
      · obtain rfl : p = 13 := by omega
        have HR2 : Hid (rightM m = (cubR m && ((m.cube.1 == Z && m.cube.2 == Z) || hasK m.kind 13) && (m.head == Z || hasK m.kind 14))) := by
          show _ = _
          have : (List.range 13).all (okJ m) = true := by
            rw [List.all_eq_true]
            intro j hj
            exact HALL.out j (List.mem_range.1 hj)
          rw [HRF.out, this, Bool.true_and]
        obtain ⟨V, hV⟩ : ∃ V, V = m.cube.1 := ⟨_, rfl⟩
        obtain ⟨M, hM⟩ : ∃ M, M = m.cube.2 := ⟨_, rfl⟩
        obtain ⟨hd, hhd⟩ : ∃ hd, hd = m.head := ⟨_, rfl⟩
        have hVb : Byt V := by rw [hV]; exact hm.2.1
        have hMb : Byt M := by rw [hM]; exact hm.2.2.1
        have hVl := hVb.1
        have hMl := hMb.1
        have hHl : hd.length = 13 := by rw [hhd]; exact hm.2.2.2.1
        have CC : Hid (∀ W, Calls Try.prog 23 #[.agg (cv V M)] W fun e w' => e = .returned (.agg (cv (can V M) M)) ∧ Below W.heap.size W w') := rcanon_any V M hVb hMb
        have CH3 : Hid (∀ W, Calls Try.prog 22 #[.int .i64 m.kind, .int .u8 67] W fun e w' => e = .returned (.bool (hasK m.kind 13)) ∧ w' = W) := fun W => HH.out 13 (by decide) W
        have CH4 : Hid (∀ W, Calls Try.prog 22 #[.int .i64 m.kind, .int .u8 72] W fun e w' => e = .returned (.bool (hasK m.kind 14)) ∧ w' = W) := fun W => HH.out 14 (by decide) W
        have hcub : ∀ j, j < 26 → (msA m)[14 + j]? = (cv V M)[j]? := by rw [hV, hM]; exact ms_cube hm
        have hhea : ∀ j, j < 13 → (msA m)[40 + j]? = (hv hd)[j]? := by rw [hhd]; exact ms_head hm
        obtain ⟨r, hr⟩ : ∃ r, r = (V == can V M) := ⟨_, rfl⟩
        obtain ⟨z, hz⟩ : ∃ z, z = (V == Z && M == Z) := ⟨_, rfl⟩
        obtain ⟨y, hy⟩ : ∃ y, y = (hd == Z) := ⟨_, rfl⟩
        obtain ⟨b3, hb3⟩ : ∃ b3, b3 = hasK m.kind 13 := ⟨_, rfl⟩
        obtain ⟨b4, hb4⟩ : ∃ b4, b4 = hasK m.kind 14 := ⟨_, rfl⟩
        have HR3 : Hid (rightM m = (r && (z || b3) && (y || b4))) := by
          show _ = _
          rw [HR2.out, hr, hz, hy, hb3, hb4, hV, hM, hhd]
          rfl
        have hCl := (can_byt V M).1
        have eC : ∀ w, (Op.equalIn 10000 25 (.agg (cv V M)) (.agg (cv (can V M) M))).run Try.prog w = .ok r w := fun w => by
          rw [eqC V M (can V M) M hVl hMl hCl hMl, hr, beq_self_eq_true, Bool.and_true]
        have eZ : ∀ w, (Op.equalIn 10000 25 (.agg (cv V M)) (.agg zeroC)).run Try.prog w = .ok z w := fun w => by
          rw [zeroC_eq, eqC V M Z Z hVl hMl Z_byt.1 Z_byt.1, hz]
        have eg : ∀ op x y (xs ys : Array Value) w, (eqGuard op 25 x y (.agg xs) (.agg ys)).run Try.prog w = .ok () w := egC
        have eH : ∀ w, (Op.equalIn 10000 23 (.agg (hv hd)) (.agg (hv Z))).run Try.prog w = .ok y w := fun w => by
          rw [eq26 hd Z hHl Z_byt.1, hy]
        have egh : ∀ op x y (xs ys : Array Value) w, (eqGuard op 23 x y (.agg xs) (.agg ys)).run Try.prog w = .ok () w := egH
        rw [← hb3] at CH3
        rw [← hb4] at CH4
        have hcs := cv_size V M hVl hMl
        clear hV hM hhd hr hz hy hb3 hb4 hVb hMb HR2 HRF HNO HALL
        have ne1 := Later.ne wr
        have c5 : ∀ u : Later wr, u.world.cell? ⟨w.heap.size, 0, none⟩ = some (.int .i64 m.kind) := fun u => by
          rw [cell_of_row _ _ _ _ _ _ ((u.below.block _ hsz).trans gk), ms_kind]
        go_wp2_with fail

        cases r with
        | false =>
          refine wp_region_later (by kernel_rfl) (by kernel_rfl) ?_
          go_big_quiet_step (fail)
          refine qlA CuGOk rfl _ rfl w.heap.size 14 rfl _ _ _ (cv V M) hcs (later_block gk) hcub ?_
          simp only [Act.put, List.setIfInBounds_toArray, List.set_cons_succ, List.set_cons_zero]
          go_big_quiet_step (fail)
          refine qlA CuGOk rfl _ rfl w.heap.size 14 rfl _ _ _ (cv V M) hcs (later_block gk) hcub ?_
          simp only [Act.put, List.setIfInBounds_toArray, List.set_cons_succ, List.set_cons_zero]
          go_big_quiet_want; go_big_quiet_op
          refine ⟨_, fun u => Calls.later_of (CC.out u.world), ?_⟩
          go_big_quiet_on
          go_big_quiet_step (fail)
          go_big_quiet_step (fail)
          go_big_quiet_step (fail)
          go_big_quiet_step (fail)
          go_big_quiet_step (fail)
          go_big_quiet_step (fail)
          go_big_quiet_step (fail)
          go_big_quiet_step (fail)
          go_big_quiet_step (fail)
          go_big_quiet_step (fail)
          go_big_quiet_step (fail)
          go_big_quiet_step (fail)
          go_big_quiet_step (fail)
          refine wpQuiet_nil ?_
          rintro w5 ⟨u, hu⟩
          have HB5 : Hid (Below w.heap.size w w5) := by rw [hu]; exact hB.trans (u.below.mono hB.size)
          have g5 : w5.heap[w.heap.size]? = some (.cells (msA m) 27 (0, 0)) := by rw [hu, u.below.block _ hsz]; exact gk
          have k5 : w5.cell? ⟨w.heap.size, 0, none⟩ = some (.int .i64 m.kind) := by rw [cell_of_row _ _ _ _ _ _ g5, ms_kind]
          clear hu u ne1 c5 gk hB
          go_wp2_with fail
          go_ret
          rw [HR3.out]
          exact ⟨rfl, HB5.out⟩
        | true =>
          cases z with
          | true =>
            refine wp_region_later (by kernel_rfl) (by kernel_rfl) ?_
            go_big_quiet_step (fail)
            refine qlA CuGOk rfl _ rfl w.heap.size 14 rfl _ _ _ (cv V M) hcs (later_block gk) hcub ?_
            simp only [Act.put, List.setIfInBounds_toArray, List.set_cons_succ, List.set_cons_zero]
            go_big_quiet_step (fail)
            refine qlA CuGOk rfl _ rfl w.heap.size 14 rfl _ _ _ (cv V M) hcs (later_block gk) hcub ?_
            simp only [Act.put, List.setIfInBounds_toArray, List.set_cons_succ, List.set_cons_zero]
            go_big_quiet_want; go_big_quiet_op
            refine ⟨_, fun u => Calls.later_of (CC.out u.world), ?_⟩
            go_big_quiet_on
            go_big_quiet_step (fail)
            go_big_quiet_step (fail)
            go_big_quiet_step (fail)
            refine qlA CuGOk rfl _ rfl w.heap.size 14 rfl _ _ _ (cv V M) hcs (later_block gk) hcub ?_
            simp only [Act.put, List.setIfInBounds_toArray, List.set_cons_succ, List.set_cons_zero]
            go_big_quiet_step (fail)
            go_big_quiet_step (fail)
            go_big_quiet_step (fail)
            go_big_quiet_step (fail)
            go_big_quiet_step (fail)
            go_big_quiet_step (fail)
            go_big_quiet_step (fail)
            go_big_quiet_step (fail)
            go_big_quiet_step (fail)
            refine wpQuiet_nil ?_
            rintro w5 ⟨u, hu⟩
            have HB5 : Hid (Below w.heap.size w w5) := by rw [hu]; exact hB.trans (u.below.mono hB.size)
            have g5 : w5.heap[w.heap.size]? = some (.cells (msA m) 27 (0, 0)) := by rw [hu, u.below.block _ hsz]; exact gk
            have k5 : w5.cell? ⟨w.heap.size, 0, none⟩ = some (.int .i64 m.kind) := by rw [cell_of_row _ _ _ _ _ _ g5, ms_kind]
            clear hu u ne1 c5 gk hB
            cases y with
            | true =>
              go_wp2_with (first
                | go_skip
                | ((with_reducible refine wl_gl16 23 _ rfl ?_); refine wl_loadA HeOk rfl _ rfl w.heap.size 40 rfl _ _ _ (hv hd) (by rw [hv_size, hHl]; rfl) g5 hhea ?_)
                | ((with_reducible refine wl_gb16 23 _ rfl ?_); refine wl_zeroH16 rfl rfl ?_)
                | (go_at_call 22; refine (CH4.out _).mono ?_; rintro e w6 ⟨rfl, hw6⟩; obtain rfl := hw6.symm))
              go_ret
              rw [HR3.out]
              exact ⟨by simp, HB5.out⟩
            | false =>
              go_wp2_with (first
                | go_skip
                | ((with_reducible refine wl_gl16 23 _ rfl ?_); refine wl_loadA HeOk rfl _ rfl w.heap.size 40 rfl _ _ _ (hv hd) (by rw [hv_size, hHl]; rfl) g5 hhea ?_)
                | ((with_reducible refine wl_gb16 23 _ rfl ?_); refine wl_zeroH16 rfl rfl ?_)
                | (go_at_call 22; refine (CH4.out _).mono ?_; rintro e w6 ⟨rfl, hw6⟩; obtain rfl := hw6.symm))
              go_ret
              rw [HR3.out]
              exact ⟨by simp, HB5.out⟩
          | false =>
            cases b3 with
            | true =>
              refine wp_region_later (by kernel_rfl) (by kernel_rfl) ?_
              go_big_quiet_step (fail)
              refine qlA CuGOk rfl _ rfl w.heap.size 14 rfl _ _ _ (cv V M) hcs (later_block gk) hcub ?_
              simp only [Act.put, List.setIfInBounds_toArray, List.set_cons_succ, List.set_cons_zero]
              go_big_quiet_step (fail)
              refine qlA CuGOk rfl _ rfl w.heap.size 14 rfl _ _ _ (cv V M) hcs (later_block gk) hcub ?_
              simp only [Act.put, List.setIfInBounds_toArray, List.set_cons_succ, List.set_cons_zero]
              go_big_quiet_want; go_big_quiet_op
              refine ⟨_, fun u => Calls.later_of (CC.out u.world), ?_⟩
              go_big_quiet_on
              go_big_quiet_step (fail)
              go_big_quiet_step (fail)
              go_big_quiet_step (fail)
              refine qlA CuGOk rfl _ rfl w.heap.size 14 rfl _ _ _ (cv V M) hcs (later_block gk) hcub ?_
              simp only [Act.put, List.setIfInBounds_toArray, List.set_cons_succ, List.set_cons_zero]
              go_big_quiet_step (fail)
              go_big_quiet_step (fail)
              go_big_quiet_step (fail)
              go_big_quiet_step (fail)
              go_big_quiet_step (fail)
              go_big_quiet_want; go_big_quiet_op
              refine ⟨_, fun u => Calls.later_same16 (CH3.out u.world), ?_⟩
              go_big_quiet_on
              go_big_quiet_step (fail)
              go_big_quiet_step (fail)
              go_big_quiet_step (fail)
              refine wpQuiet_nil ?_
              rintro w5 ⟨u, hu⟩
              have HB5 : Hid (Below w.heap.size w w5) := by rw [hu]; exact hB.trans (u.below.mono hB.size)
              have g5 : w5.heap[w.heap.size]? = some (.cells (msA m) 27 (0, 0)) := by rw [hu, u.below.block _ hsz]; exact gk
              have k5 : w5.cell? ⟨w.heap.size, 0, none⟩ = some (.int .i64 m.kind) := by rw [cell_of_row _ _ _ _ _ _ g5, ms_kind]
              clear hu u ne1 c5 gk hB
              cases y with
              | true =>
                go_wp2_with (first
                  | go_skip
                  | ((with_reducible refine wl_gl16 23 _ rfl ?_); refine wl_loadA HeOk rfl _ rfl w.heap.size 40 rfl _ _ _ (hv hd) (by rw [hv_size, hHl]; rfl) g5 hhea ?_)
                  | ((with_reducible refine wl_gb16 23 _ rfl ?_); refine wl_zeroH16 rfl rfl ?_)
                  | (go_at_call 22; refine (CH4.out _).mono ?_; rintro e w6 ⟨rfl, hw6⟩; obtain rfl := hw6.symm))
                go_ret
                rw [HR3.out]
                exact ⟨by simp, HB5.out⟩
              | false =>
                go_wp2_with (first
                  | go_skip
                  | ((with_reducible refine wl_gl16 23 _ rfl ?_); refine wl_loadA HeOk rfl _ rfl w.heap.size 40 rfl _ _ _ (hv hd) (by rw [hv_size, hHl]; rfl) g5 hhea ?_)
                  | ((with_reducible refine wl_gb16 23 _ rfl ?_); refine wl_zeroH16 rfl rfl ?_)
                  | (go_at_call 22; refine (CH4.out _).mono ?_; rintro e w6 ⟨rfl, hw6⟩; obtain rfl := hw6.symm))
                go_ret
                rw [HR3.out]
                exact ⟨by simp, HB5.out⟩
            | false =>
              refine wp_region_later (by kernel_rfl) (by kernel_rfl) ?_
              go_big_quiet_step (fail)
              refine qlA CuGOk rfl _ rfl w.heap.size 14 rfl _ _ _ (cv V M) hcs (later_block gk) hcub ?_
              simp only [Act.put, List.setIfInBounds_toArray, List.set_cons_succ, List.set_cons_zero]
              go_big_quiet_step (fail)
              refine qlA CuGOk rfl _ rfl w.heap.size 14 rfl _ _ _ (cv V M) hcs (later_block gk) hcub ?_
              simp only [Act.put, List.setIfInBounds_toArray, List.set_cons_succ, List.set_cons_zero]
              go_big_quiet_want; go_big_quiet_op
              refine ⟨_, fun u => Calls.later_of (CC.out u.world), ?_⟩
              go_big_quiet_on
              go_big_quiet_step (fail)
              go_big_quiet_step (fail)
              go_big_quiet_step (fail)
              refine qlA CuGOk rfl _ rfl w.heap.size 14 rfl _ _ _ (cv V M) hcs (later_block gk) hcub ?_
              simp only [Act.put, List.setIfInBounds_toArray, List.set_cons_succ, List.set_cons_zero]
              go_big_quiet_step (fail)
              go_big_quiet_step (fail)
              go_big_quiet_step (fail)
              go_big_quiet_step (fail)
              go_big_quiet_step (fail)
              go_big_quiet_want; go_big_quiet_op
              refine ⟨_, fun u => Calls.later_same16 (CH3.out u.world), ?_⟩
              go_big_quiet_on
              go_big_quiet_step (fail)
              go_big_quiet_step (fail)
              go_big_quiet_step (fail)
              refine wpQuiet_nil ?_
              rintro w5 ⟨u, hu⟩
              have HB5 : Hid (Below w.heap.size w w5) := by rw [hu]; exact hB.trans (u.below.mono hB.size)
              have g5 : w5.heap[w.heap.size]? = some (.cells (msA m) 27 (0, 0)) := by rw [hu, u.below.block _ hsz]; exact gk
              have k5 : w5.cell? ⟨w.heap.size, 0, none⟩ = some (.int .i64 m.kind) := by rw [cell_of_row _ _ _ _ _ _ g5, ms_kind]
              clear hu u ne1 c5 gk hB
              go_wp2_with fail
              go_ret
              rw [HR3.out]
              exact ⟨rfl, HB5.out⟩
end Go.Proofs.Ytjmbdoiibchokaa
namespace Go.Proofs.Ytjmbdoiibchokaa
open Go Go.Lib Go.RowKit
set_option maxRecDepth 20000

set_option maxHeartbeats 8000000 in
theorem lawMRight_any (m : MsgM) (hm : okM m) (w : World) : Calls Try.prog 3 #[.agg (msA m)] w fun e w' => e = .returned (.bool true) ∧ Below w.heap.size w w' := by
  have AW : Hid (∀ W, Calls Try.prog 8 #[] W fun e w' => e = .returned (.bool true) ∧ Below W.heap.size W w') := fun W => awake16_any W
  obtain ⟨r, hr⟩ : ∃ r, r = rightM m := ⟨_, rfl⟩
  have R1 : Hid (∀ W, Calls Try.prog 9 #[.agg (msA m)] W fun e w' => e = .returned (.bool r) ∧ Below W.heap.size W w') := fun W => by rw [hr]; exact mright_any m hm W
  have R2 : Hid (∀ W, Calls Try.prog 10 #[.agg (msA m)] W fun e w' => e = .returned (.bool r) ∧ Below W.heap.size W w') := fun W => by rw [hr]; exact r16right_any m hm W
  clear hr
  have hms := msA_size hm
  have g0 : (w.alloc (.cells (msA m) 27)).heap[w.heap.size]? = some (.cells (msA m) 27 (0, 0)) := heap_new _ _ _ rfl
  have B0 : Below w.heap.size w (w.alloc (.cells (msA m) 27)) := (Below.refl _ _).alloc (Nat.le_refl _) _
  go_enter Try.func3, Try.ntmps3
  go_wp2_with fail
  refine (AW.out _).mono ?_
  rintro e w1 ⟨rfl, hb1⟩
  have g1 : w1.heap[w.heap.size]? = some (.cells (msA m) 27 (0, 0)) := (hb1.block _ (Array.getElem?_eq_some_iff.1 g0).1).trans g0
  have B1 : Below w.heap.size w w1 := B0.trans (hb1.mono B0.size)
  clear hb1 g0 B0
  go_wp2_with fail
  have ne1 := Later.ne w1
  refine wp_region_later (by kernel_rfl) (by kernel_rfl) ?_
  refine qlA MsOk rfl _ rfl w.heap.size 0 rfl _ _ _ (msA m) hms (later_block g1) (own_cells _ _) ?_
  simp only [Act.put, List.setIfInBounds_toArray, List.set_cons_succ, List.set_cons_zero]
  go_big_quiet_want; go_big_quiet_op
  refine ⟨_, fun u => Calls.later_of (R1.out u.world), ?_⟩
  go_big_quiet_on
  refine qlA MsOk rfl _ rfl w.heap.size 0 rfl _ _ _ (msA m) hms (later_block g1) (own_cells _ _) ?_
  simp only [Act.put, List.setIfInBounds_toArray, List.set_cons_succ, List.set_cons_zero]
  go_big_quiet_want; go_big_quiet_op
  refine ⟨_, fun u => Calls.later_of (R2.out u.world), ?_⟩
  go_big_quiet_on
  go_big_quiet_step (fail)
  go_big_quiet_step (fail)
  refine wpQuiet_nil ?_
  rintro w4 ⟨u, hu⟩
  have B4 : Below w.heap.size w w4 := by rw [hu]; exact B1.trans (u.below.mono B1.size)
  clear hu u
  go_wp2_with fail
  go_ret
  exact ⟨by simp, B4⟩
end Go.Proofs.Ytjmbdoiibchokaa
