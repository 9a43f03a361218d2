import Derived.Test.YtfbphblodankmaaWOpen
namespace Go.Proofs.Ytfbphblodankmaa
open Go Go.RowKit
set_option maxRecDepth 20000

theorem own_lit (w : World) (L : List UInt8) (hl : L.length ≤ 1000) : BOwn w.heap.size (w.alloc (.cells (Lib.byteCells L).toArray 5)) (.slice (some ⟨w.heap.size, 0, none⟩) L.length L.length) L := by
  have := World.ownsRow_lit (base := w.heap.size) (e := 5) (size := 1) w (Lib.byteCells L).toArray L.length (Nat.le_refl _) (by unfold maxLen; omega) (by simp [Lib.byteCells])
  simpa [BOwn] using this
theorem val_slice {w : World} {v : Value} {L : List UInt8} (h : BSl w v L) : ∃ o n c, v = .slice o n c := by obtain ⟨o, c, h, _⟩ := h.slice; exact ⟨o, _, c, h⟩
theorem own_one (w : World) (c : UInt8) : BOwn w.heap.size (w.alloc (.cells #[.int .u8 (c.toNat : Int)] 5)) (.slice (some ⟨w.heap.size, 0, none⟩) 1 1) [c] := own_lit w [c] (by simp)
theorem own_none (w : World) : BOwn w.heap.size (w.alloc (.cells #[] 5)) (.slice (some ⟨w.heap.size, 0, none⟩) 0 0) [] := own_lit w [] (by simp)

set_option maxHeartbeats 2000000 in
theorem rbytes_any (v : Value) (L : List UInt8) (w : World) (hL : BSl w v L) (hl : L.length ≤ 140737488355328) :
    Calls Try.prog 23 #[v] w fun e w' => ∃ u, e = .returned u ∧ BOwn w.heap.size w' u L ∧ Below w.heap.size w w' := by
  have HL : Hid (BSl w v L) := hL
  obtain ⟨ov, nv, cv, rfl⟩ : ∃ o n c, v = .slice o n c := by obtain ⟨o, c, h, _⟩ := hL.slice; exact ⟨o, _, c, h⟩
  clear hL
  go_enter Try.func23, Try.ntmps23
  go_wp2_with (first
    | (at_builtin; refine of_stopW ?_))
  unfold StopW
  refine wl_appW rfl _ _ rfl w.heap.size _ (.slice ov nv cv) [] L rfl (own_none w) rfl (HL.out.alloc _) (by simpa using hl) (by simp) ?_
  intro v' w' ho hgr _
  have HO : Hid (BOwn w.heap.size w' v' L) := ho
  have HB : Hid (Below w.heap.size w w') := ((Below.refl w.heap.size w).alloc (Nat.le_refl _) _).grown hgr (by simp) fun q hq => ((own_none w).ge q hq).1
  simp only [Act.put, List.setIfInBounds_toArray, List.set_cons_succ, List.set_cons_zero]
  clear ho hgr
  go_wp2_with fail
  go_ret
  exact ⟨_, rfl, HO.out, HB.out⟩

theorem beB_mod (n k : Nat) : (n : Int) / 256 ^ k % 256 % 256 = ((UInt8.ofNat (n / 256 ^ k % 256)).toNat : Int) := by
  rw [UInt8.toNat_ofNat', Nat.mod_mod]
  have e : (256 : Int) ^ k = ((256 ^ k : Nat) : Int) := by simp
  rw [e]
  omega

set_option maxHeartbeats 2000000 in
theorem rput_any (v : Value) (L : List UInt8) (n : Nat) (s : Int) (w : World) (hL : BSl w v L) (hl : L.length ≤ 140737488351232) (hn : n < 18446744073709551616) :
    Calls Try.prog 11 #[v, .int .u64 (n : Int), .int .i64 s] w fun e w' => ∃ u, e = .returned (.tuple #[u, .int .i64 (putT L n s).2]) ∧ BOwn w.heap.size w' u (putT L n s).1 ∧ Below w.heap.size w w' := by
  have HL : Hid (BSl w v L) := hL
  obtain ⟨ov, nv, cv, rfl⟩ : ∃ o n c, v = .slice o n c := by obtain ⟨o, c, h, _⟩ := hL.slice; exact ⟨o, _, c, h⟩
  clear hL
  by_cases hc : canB s = true
  · have hs := (canB_iff s).1 hc
    obtain ⟨m, rfl⟩ : ∃ m : Nat, s = m := ⟨s.toNat, by omega⟩
    have hs1 : 1 ≤ (m : Int) := hs.1
    have hs2 : (m : Int) ≤ 8 := hs.2
    have HP : Hid (putT L n m = if n < 256 ^ m then (L ++ beB m n, 0) else ([], 10)) := by show _ = _; unfold putT; rw [if_pos hc]; simp
    clear hc hs
    go_enter Try.func11, Try.ntmps11
    go_wp2_with fail
    go_loopw [1, 8, 9] (fun a x i W => ∃ k : Nat, k ≤ m ∧ i = .int .i64 k ∧ a = .int .u64 ((n / 256 ^ k : Nat) : Int) ∧ BOwn w.heap.size W x (beB k n) ∧ Below w.heap.size w W) (fun _ _ i _ => m - (intOf i).toNat)
    case atStart => exact ⟨0, Nat.zero_le _, rfl, by simp, own_none w, (Below.refl _ _).alloc (Nat.le_refl _) _⟩
    case round =>
      obtain ⟨k, hk, rfl, rfl, ho, hb⟩ := hrel
      obtain ⟨ox, nx, cx, rfl⟩ := val_slice ho.sl
      have HO : Hid (BOwn w.heap.size wr (.slice ox nx cx) (beB k n)) := ho
      have HB : Hid (Below w.heap.size w wr) := hb
      have hsz := hb.size
      obtain ⟨q, hq⟩ : ∃ q, q = n / 256 ^ k := ⟨_, rfl⟩
      have HQ : Hid (q = n / 256 ^ k) := hq
      have hqn : q < 18446744073709551616 := by rw [hq]; exact Nat.lt_of_le_of_lt (Nat.div_le_self _ _) hn
      rw [← hq]
      clear ho hb hq
      by_cases hlt : k < m
      · have HC : Hid ((q : Int) % 256 = ((UInt8.ofNat (n / 256 ^ k % 256)).toNat : Int)) := by
          show _ = _
          rw [UInt8.toNat_ofNat', Nat.mod_mod, HQ.out]
          simp
        have HN2 : Hid (n / 256 ^ (k + 1) = q / 256) := by
          show _ = _
          rw [HQ.out, Nat.div_div_eq_div_mul, Nat.pow_succ]
        go_wp2_with (first
          | (at_builtin; refine of_stopW ?_))
        unfold StopW
        first | rw [HC.out] | (rw [Int.emod_emod_of_dvd _ (by decide), HC.out])
        refine wl_appW rfl _ _ rfl wr.heap.size _ (.slice ox nx cx) [_] (beB k n) rfl (own_one wr _) rfl (HO.out.sl.alloc _) (by rw [beB_len]; simp; omega) (by simp) ?_
        intro v' w' ho hgr _
        have HO2 : Hid (BOwn w.heap.size w' v' (beB (k + 1) n)) := by
          rw [beB_ahead]
          exact ho.base hsz
        have HB2 : Hid (Below w.heap.size w w') := HB.out.trans ((((Below.refl wr.heap.size wr).alloc (Nat.le_refl _) _).grown hgr (by simp) fun q hq => ((own_one wr (UInt8.ofNat (n / 256 ^ k % 256))).ge q hq).1).mono hsz)
        simp only [Act.put, List.setIfInBounds_toArray, List.set_cons_succ, List.set_cons_zero]
        clear ho hgr
        go_wp2_with fail
        go_roundw
        case rel => exact ⟨k + 1, by omega, by go_num, by rw [HN2.out]; first | rfl | simp, HO2.out, HB2.out⟩
        case measure => simp [intOf]; omega
      · obtain rfl : k = m := by omega
        by_cases hr : n < 256 ^ k
        · rw [if_pos hr] at HP
          have h0 : ¬ 0 < q := by rw [HQ.out, Nat.div_eq_of_lt hr]; decide
          have CB : Hid (∀ W, Below w.heap.size w W → Calls Try.prog 23 #[.slice ov nv cv] W fun e w' => ∃ u, e = .returned u ∧ BOwn W.heap.size w' u L ∧ Below W.heap.size W w') := fun W hW => rbytes_any _ L W (HL.out.below hW) (by omega)
          clear hr
          go_wp2_with fail
          refine (CB.out _ HB.out).mono ?_
          rintro e w1 ⟨u, rfl, ho1, hb1⟩
          obtain ⟨ou, nu, cu, rfl⟩ := val_slice ho1.sl
          have HO1 : Hid (BOwn w.heap.size w1 (.slice ou nu cu) L) := ho1.base hsz
          have HX1 : Hid (BSl w1 (.slice ox nx cx) (beB k n)) := HO.out.sl.below hb1
          have HB1 : Hid (Below w.heap.size w w1) := HB.out.trans (hb1.mono hsz)
          clear ho1 hb1
          go_wp2_with (first
            | (at_builtin; refine of_stopW ?_))
          unfold StopW
          refine wl_appW rfl _ _ rfl w.heap.size (.slice ou nu cu) (.slice ox nx cx) L (beB k n) rfl HO1.out rfl HX1.out (by rw [beB_len]; omega) HB1.out.size ?_
          intro v' w' ho hgr _
          have HO2 : Hid (BOwn w.heap.size w' v' (L ++ beB k n)) := ho
          have HB2 : Hid (Below w.heap.size w w') := HB1.out.grown hgr HB1.out.size fun q hq => (HO1.out.ge q hq).1
          simp only [Act.put, List.setIfInBounds_toArray, List.set_cons_succ, List.set_cons_zero]
          clear ho hgr
          go_wp2_with fail
          go_ret2
          rw [HP.out]
          exact ⟨_, rfl, HO2.out, HB2.out⟩
        · rw [if_neg hr] at HP
          have h0 : 0 < q := by rw [HQ.out]; exact Nat.div_pos (by omega) (Nat.pow_pos (by decide))
          clear hr
          go_wp2_with fail
          go_ret2
          rw [HP.out]
          exact ⟨_, rfl, BOwn.nil _ _, HB.out⟩
  · have HP : Hid (putT L n s = ([], 1)) := by show _ = _; unfold putT; rw [if_neg hc]
    have hc' : s < 1 ∨ 8 < s := by have := mt (canB_iff s).2 hc; omega
    clear hc
    rcases hc' with hc' | hc'
    all_goals
      go_enter Try.func11, Try.ntmps11
      go_wp2_with fail
      go_ret2
      rw [HP.out]
      exact ⟨_, rfl, BOwn.nil _ _, Below.refl _ _⟩
end Go.Proofs.Ytfbphblodankmaa
