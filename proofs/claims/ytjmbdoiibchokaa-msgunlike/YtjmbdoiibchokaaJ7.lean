import Derived.Test.YtjmbdoiibchokaaJ4
import Derived.Test.YtjmbdoiibchokaaJ6
import Derived.Test.YtjmbdoiibchokaaJ5
namespace Go.Proofs.Ytjmbdoiibchokaa
open Go Go.RowKit
set_option maxRecDepth 20000

set_option maxHeartbeats 2000000 in
theorem wopen_any (v : Value) (L : List UInt8) (w : World) (hL : BSl w v L) (hl : L.length ≤ 140737488355328) :
    Calls Try.prog 29 #[v] w fun e w' => ∃ u, e = .returned (.tuple #[.int .i64 (openT L).1, u, .int .i64 (openT L).2.2]) ∧ BOwn w.heap.size w' u (openT L).2.1 ∧ Below w.heap.size w w' := by
  have HL : Hid (BSl w v L) := hL
  obtain ⟨ov, cv, hv, hc1, hc2⟩ := hL.slice
  subst hv
  clear hL
  obtain ⟨n, hn⟩ : ∃ n, n = L.length := ⟨_, rfl⟩
  have HN : Hid (n = L.length) := hn
  rw [← hn] at HL hc1 hl ⊢
  clear hn
  have hcm := hc2
  unfold maxLen at hc2
  by_cases h3 : 3 ≤ n
  · obtain ⟨g, off, _, rfl, _, _⟩ := HL.out.at 2 (by omega)
    have HA : Hid (BSl w (.slice (some ⟨g, off, none⟩) 2 cv) (L.take 2)) := by
      have := HL.out.part g off 0 2 cv rfl (by omega) (by omega) hcm
      rw [Nat.add_zero, List.drop_zero] at this
      exact this
    have HK : Hid (BSl w (.slice (some ⟨g, off + 2, none⟩) 1 (cv - 2)) ((L.drop 2).take 1)) := HL.out.part g off 2 1 (cv - 2) rfl (by omega) (by omega) (by omega)
    have CA : Hid (∀ W, W = w → Calls Try.prog 43 #[.slice (some ⟨g, off, none⟩) 2 cv] W fun e w' => e = .returned (.int .u64 (valB (L.take 2) : Int)) ∧ w' = W) := fun W hW => by
      subst hW
      exact number_any _ _ W HA.out (by simp; omega)
    have CK : Hid (∀ W, W = w → Calls Try.prog 43 #[.slice (some ⟨g, off + 2, none⟩) 1 (cv - 2)] W fun e w' => e = .returned (.int .u64 (valB ((L.drop 2).take 1) : Int)) ∧ w' = W) := fun W hW => by
      subst hW
      exact number_any _ _ W HK.out (by simp; omega)
    have HO := openB_form L (by rw [← HN.out]; exact h3)
    have hk1 : valB ((L.drop 2).take 1) < 256 := by
      have := valB_lt ((L.drop 2).take 1)
      have e : ((L.drop 2).take 1).length = 1 := by simp; rw [← HN.out]; omega
      rwa [e] at this
    have ha1 : valB (L.take 2) < 65536 := by
      have := valB_lt (L.take 2)
      have e : (L.take 2).length = 2 := by simp; rw [← HN.out]; omega
      rwa [e] at this
    rw [← HN.out] at HO
    obtain ⟨a, ha⟩ : ∃ a, a = valB (L.take 2) := ⟨_, rfl⟩
    obtain ⟨k, hk⟩ : ∃ k, k = valB ((L.drop 2).take 1) := ⟨_, rfl⟩
    rw [← ha] at CA HO ha1
    rw [← hk] at CK HO hk1
    clear ha hk HA HK
    by_cases hc3 : cv = 3
    · subst hc3
      obtain rfl : n = 3 := by omega
      have HBd : Hid (BSl w (.slice (some ⟨g, off, none⟩) 0 0) (L.drop 3)) := by show BSl _ _ _; rw [List.drop_eq_nil_of_le (by rw [← HN.out]; exact Nat.le_refl _)]; exact bsl_none _ _ _ (Nat.zero_le _)
      have HJ : Hid (∀ (g2 : Nat) (W : World), W.heap[g2]? = some (.cells #[.slice (some ⟨g, off, none⟩) 0 0] 30 (0, 0)) → BSl W (.slice (some ⟨g, off, none⟩) 0 0) (L.drop 3) → Calls Try.prog 39 #[.slice (some ⟨g2, 0, none⟩) 1 1] W fun e w' => ∃ v, e = .returned v ∧ BOwn W.heap.size w' v (L.drop 3) ∧ Below W.heap.size W w') := fun g2 W g3 g4 => by
        refine (join_any g2 [.slice (some ⟨g, off, none⟩) 0 0] [L.drop 3] W g3 (by simp) ⟨g4, trivial⟩ ?_).mono ?_
        · simp; rw [← HN.out]; omega
        · rintro e w' ⟨u, rfl, h4, h5⟩
          exact ⟨u, rfl, by simpa using h4, h5⟩
      by_cases hq : a = 0
      · have HP : Hid (openT L = ((k : Int), L.drop 3, 0)) := by show _ = _; unfold openT; rw [HO, if_pos hq]
        have hqi : ((a : Int) == 0) = true := by simp; exact hq
        clear hq HO
        go_enter Try.func29, Try.ntmps29
        go_wp2_with fail
        refine (CA.out _ rfl).mono ?_
        rintro e w1 ⟨rfl, rfl⟩
        go_wp2_with fail
        refine (CK.out _ rfl).mono ?_
        rintro e w2 ⟨rfl, rfl⟩
        go_wp2_with (refine wl_lists rfl 1 _ rfl #[.slice (some ⟨g, off, none⟩) 0 0] (by decide) (by decide) rfl ?_)
        refine (HJ.out _ _ (heap_new _ _ _ rfl) (HBd.out.alloc _)).mono ?_
        rintro e w3 ⟨y, rfl, ho, hb⟩
        have HOw : Hid (BOwn w2.heap.size w3 y (L.drop 3)) := ho.base (by simp)
        have HB3 : Hid (Below w2.heap.size w2 w3) := ((Below.refl _ _).alloc (Nat.le_refl _) _).trans (hb.mono (by simp))
        clear ho hb
        go_wp2_with fail
        go_ret3
        rw [HP.out]
        exact ⟨y, rfl, HOw.out, HB3.out⟩
      · have HP : Hid (openT L = (0, [], 12)) := by show _ = _; unfold openT; rw [HO, if_neg hq]
        have hqi : ((a : Int) == 0) = false := by simp; exact hq
        clear hq HO
        go_enter Try.func29, Try.ntmps29
        go_wp2_with fail
        refine (CA.out _ rfl).mono ?_
        rintro e w1 ⟨rfl, rfl⟩
        go_wp2_with fail
        go_ret3
        rw [HP.out]
        exact ⟨_, rfl, BOwn.nil _ _, Below.refl _ _⟩
    · have hc4 : 3 < cv := by omega
      have HBd : Hid (BSl w (.slice (some ⟨g, off + 3, none⟩) (n - 3) (cv - 3)) (L.drop 3)) := by
        have := HL.out.part g off 3 (n - 3) (cv - 3) rfl (by omega) (by omega) (by omega)
        rw [List.take_of_length_le (by simp; rw [← HN.out]; omega)] at this
        exact this
      have HJ : Hid (∀ (g2 : Nat) (W : World), W.heap[g2]? = some (.cells #[.slice (some ⟨g, off + 3, none⟩) (n - 3) (cv - 3)] 30 (0, 0)) → BSl W (.slice (some ⟨g, off + 3, none⟩) (n - 3) (cv - 3)) (L.drop 3) → Calls Try.prog 39 #[.slice (some ⟨g2, 0, none⟩) 1 1] W fun e w' => ∃ v, e = .returned v ∧ BOwn W.heap.size w' v (L.drop 3) ∧ Below W.heap.size W w') := fun g2 W g3 g4 => by
        refine (join_any g2 [.slice (some ⟨g, off + 3, none⟩) (n - 3) (cv - 3)] [L.drop 3] W g3 (by simp) ⟨g4, trivial⟩ ?_).mono ?_
        · simp; rw [← HN.out]; omega
        · rintro e w' ⟨u, rfl, h4, h5⟩
          exact ⟨u, rfl, by simpa using h4, h5⟩
      by_cases hq : a = n - 3
      · have HP : Hid (openT L = ((k : Int), L.drop 3, 0)) := by show _ = _; unfold openT; rw [HO, if_pos hq]
        have hqi : ((a : Int) == ((n - 3 : Nat) : Int)) = true := by simp; omega
        clear hq HO
        go_enter Try.func29, Try.ntmps29
        go_wp2_with fail
        refine (CA.out _ rfl).mono ?_
        rintro e w1 ⟨rfl, rfl⟩
        go_wp2_with fail
        refine (CK.out _ rfl).mono ?_
        rintro e w2 ⟨rfl, rfl⟩
        go_wp2_with (refine wl_lists rfl 1 _ rfl #[.slice (some ⟨g, off + 3, none⟩) (n - 3) (cv - 3)] (by decide) (by decide) rfl ?_)
        refine (HJ.out _ _ (heap_new _ _ _ rfl) (HBd.out.alloc _)).mono ?_
        rintro e w3 ⟨y, rfl, ho, hb⟩
        have HOw : Hid (BOwn w2.heap.size w3 y (L.drop 3)) := ho.base (by simp)
        have HB3 : Hid (Below w2.heap.size w2 w3) := ((Below.refl _ _).alloc (Nat.le_refl _) _).trans (hb.mono (by simp))
        clear ho hb
        go_wp2_with fail
        go_ret3
        rw [HP.out]
        exact ⟨y, rfl, HOw.out, HB3.out⟩
      · have HP : Hid (openT L = (0, [], 12)) := by show _ = _; unfold openT; rw [HO, if_neg hq]
        have hqi : ((a : Int) == ((n - 3 : Nat) : Int)) = false := by simp; omega
        clear hq HO
        go_enter Try.func29, Try.ntmps29
        go_wp2_with fail
        refine (CA.out _ rfl).mono ?_
        rintro e w1 ⟨rfl, rfl⟩
        go_wp2_with fail
        go_ret3
        rw [HP.out]
        exact ⟨_, rfl, BOwn.nil _ _, Below.refl _ _⟩
  · have HP : Hid (openT L = (0, [], 12)) := by show _ = _; unfold openT; rw [openB_short L (by rw [← HN.out]; exact h3)]
    have hn : (n : Int) < 3 := by omega
    go_enter Try.func29, Try.ntmps29
    go_wp2_with fail
    go_ret3
    rw [HP.out]
    exact ⟨_, rfl, BOwn.nil _ _, Below.refl _ _⟩
end Go.Proofs.Ytjmbdoiibchokaa
namespace Go.Proofs.Ytjmbdoiibchokaa
open Go Go.RowKit
set_option maxRecDepth 20000

theorem own_lit (w : World) (L : List UInt8) (hl : L.length ≤ 1000) : BOwn w.heap.size (w.alloc (.cells (Lib.byteCells L).toArray 5)) (.slice (some ⟨w.heap.size, 0, none⟩) L.length L.length) L := by
  have := World.ownsRow_lit (base := w.heap.size) (e := 5) (size := 1) w (Lib.byteCells L).toArray L.length (Nat.le_refl _) (by unfold maxLen; omega) (by simp [Lib.byteCells])
  simpa [BOwn] using this
theorem val_slice {w : World} {v : Value} {L : List UInt8} (h : BSl w v L) : ∃ o n c, v = .slice o n c := by obtain ⟨o, c, h, _⟩ := h.slice; exact ⟨o, _, c, h⟩
theorem own_one (w : World) (c : UInt8) : BOwn w.heap.size (w.alloc (.cells #[.int .u8 (c.toNat : Int)] 5)) (.slice (some ⟨w.heap.size, 0, none⟩) 1 1) [c] := own_lit w [c] (by simp)
theorem own_none (w : World) : BOwn w.heap.size (w.alloc (.cells #[] 5)) (.slice (some ⟨w.heap.size, 0, none⟩) 0 0) [] := own_lit w [] (by simp)

set_option maxHeartbeats 2000000 in
theorem rbytes_any (v : Value) (L : List UInt8) (w : World) (hL : BSl w v L) (hl : L.length ≤ 140737488355328) :
    Calls Try.prog 16 #[v] w fun e w' => ∃ u, e = .returned u ∧ BOwn w.heap.size w' u L ∧ Below w.heap.size w w' := by
  have HL : Hid (BSl w v L) := hL
  obtain ⟨ov, nv, cv, rfl⟩ : ∃ o n c, v = .slice o n c := by obtain ⟨o, c, h, _⟩ := hL.slice; exact ⟨o, _, c, h⟩
  clear hL
  go_enter Try.func16, Try.ntmps16
  go_wp2_with (first
    | (at_builtin; refine of_stopW ?_))
  unfold StopW
  refine wl_appW rfl _ _ rfl w.heap.size _ (.slice ov nv cv) [] L rfl (own_none w) rfl (HL.out.alloc _) (by simpa using hl) (by simp) ?_
  intro v' w' ho hgr _
  have HO : Hid (BOwn w.heap.size w' v' L) := ho
  have HB : Hid (Below w.heap.size w w') := ((Below.refl w.heap.size w).alloc (Nat.le_refl _) _).grown hgr (by simp) fun q hq => ((own_none w).ge q hq).1
  simp only [Act.put, List.setIfInBounds_toArray, List.set_cons_succ, List.set_cons_zero]
  clear ho hgr
  go_wp2_with fail
  go_ret
  exact ⟨_, rfl, HO.out, HB.out⟩

set_option maxHeartbeats 2000000 in
theorem rput_any (v : Value) (L : List UInt8) (n : Nat) (s : Int) (w : World) (hL : BSl w v L) (hl : L.length ≤ 140737488351232) (hn : n < 18446744073709551616) :
    Calls Try.prog 27 #[v, .int .u64 (n : Int), .int .i64 s] w fun e w' => ∃ u, e = .returned (.tuple #[u, .int .i64 (putT L n s).2]) ∧ BOwn w.heap.size w' u (putT L n s).1 ∧ Below w.heap.size w w' := by
  have HL : Hid (BSl w v L) := hL
  obtain ⟨ov, nv, cv, rfl⟩ : ∃ o n c, v = .slice o n c := by obtain ⟨o, c, h, _⟩ := hL.slice; exact ⟨o, _, c, h⟩
  clear hL
  by_cases hc : canB s = true
  · have hs := (canB_iff s).1 hc
    obtain ⟨m, rfl⟩ : ∃ m : Nat, s = m := ⟨s.toNat, by omega⟩
    have hs1 : 1 ≤ (m : Int) := hs.1
    have hs2 : (m : Int) ≤ 8 := hs.2
    have HP : Hid (putT L n m = if n < 256 ^ m then (L ++ beB m n, 0) else ([], 10)) := by show _ = _; unfold putT; rw [if_pos hc]; simp
    clear hc hs
    go_enter Try.func27, Try.ntmps27
    go_wp2_with fail
    go_loopw [1, 8, 9] (fun a x i W => ∃ k : Nat, k ≤ m ∧ i = .int .i64 k ∧ a = .int .u64 ((n / 256 ^ k : Nat) : Int) ∧ BOwn w.heap.size W x (beB k n) ∧ Below w.heap.size w W) (fun _ _ i _ => m - (intOf i).toNat)
    case atStart => exact ⟨0, Nat.zero_le _, rfl, by simp, own_none w, (Below.refl _ _).alloc (Nat.le_refl _) _⟩
    case round =>
      obtain ⟨k, hk, rfl, rfl, ho, hb⟩ := hrel
      obtain ⟨ox, nx, cx, rfl⟩ := val_slice ho.sl
      have HO : Hid (BOwn w.heap.size wr (.slice ox nx cx) (beB k n)) := ho
      have HB : Hid (Below w.heap.size w wr) := hb
      have hsz := hb.size
      obtain ⟨q, hq⟩ : ∃ q, q = n / 256 ^ k := ⟨_, rfl⟩
      have HQ : Hid (q = n / 256 ^ k) := hq
      have hqn : q < 18446744073709551616 := by rw [hq]; exact Nat.lt_of_le_of_lt (Nat.div_le_self _ _) hn
      rw [← hq]
      clear ho hb hq
      by_cases hlt : k < m
      · have HC : Hid ((q : Int) % 256 = ((UInt8.ofNat (n / 256 ^ k % 256)).toNat : Int)) := by
          show _ = _
          rw [UInt8.toNat_ofNat', Nat.mod_mod, HQ.out]
          simp
        have HN2 : Hid (n / 256 ^ (k + 1) = q / 256) := by
          show _ = _
          rw [HQ.out, Nat.div_div_eq_div_mul, Nat.pow_succ]
        go_wp2_with (first
          | (at_builtin; refine of_stopW ?_))
        unfold StopW
        first | rw [HC.out] | (rw [Int.emod_emod_of_dvd _ (by decide), HC.out])
        refine wl_appW rfl _ _ rfl wr.heap.size _ (.slice ox nx cx) [_] (beB k n) rfl (own_one wr _) rfl (HO.out.sl.alloc _) (by rw [beB_len]; simp; omega) (by simp) ?_
        intro v' w' ho hgr _
        have HO2 : Hid (BOwn w.heap.size w' v' (beB (k + 1) n)) := by
          rw [beB_ahead]
          exact ho.base hsz
        have HB2 : Hid (Below w.heap.size w w') := HB.out.trans ((((Below.refl wr.heap.size wr).alloc (Nat.le_refl _) _).grown hgr (by simp) fun q hq => ((own_one wr (UInt8.ofNat (n / 256 ^ k % 256))).ge q hq).1).mono hsz)
        simp only [Act.put, List.setIfInBounds_toArray, List.set_cons_succ, List.set_cons_zero]
        clear ho hgr
        go_wp2_with fail
        go_roundw
        case rel => exact ⟨k + 1, by omega, by go_num, by rw [HN2.out]; first | rfl | simp, HO2.out, HB2.out⟩
        case measure => simp [intOf]; omega
      · obtain rfl : k = m := by omega
        by_cases hr : n < 256 ^ k
        · rw [if_pos hr] at HP
          have h0 : ¬ 0 < q := by rw [HQ.out, Nat.div_eq_of_lt hr]; decide
          have CB : Hid (∀ W, Below w.heap.size w W → Calls Try.prog 16 #[.slice ov nv cv] W fun e w' => ∃ u, e = .returned u ∧ BOwn W.heap.size w' u L ∧ Below W.heap.size W w') := fun W hW => rbytes_any _ L W (HL.out.below hW) (by omega)
          clear hr
          go_wp2_with fail
          refine (CB.out _ HB.out).mono ?_
          rintro e w1 ⟨u, rfl, ho1, hb1⟩
          obtain ⟨ou, nu, cu, rfl⟩ := val_slice ho1.sl
          have HO1 : Hid (BOwn w.heap.size w1 (.slice ou nu cu) L) := ho1.base hsz
          have HX1 : Hid (BSl w1 (.slice ox nx cx) (beB k n)) := HO.out.sl.below hb1
          have HB1 : Hid (Below w.heap.size w w1) := HB.out.trans (hb1.mono hsz)
          clear ho1 hb1
          go_wp2_with (first
            | (at_builtin; refine of_stopW ?_))
          unfold StopW
          refine wl_appW rfl _ _ rfl w.heap.size (.slice ou nu cu) (.slice ox nx cx) L (beB k n) rfl HO1.out rfl HX1.out (by rw [beB_len]; omega) HB1.out.size ?_
          intro v' w' ho hgr _
          have HO2 : Hid (BOwn w.heap.size w' v' (L ++ beB k n)) := ho
          have HB2 : Hid (Below w.heap.size w w') := HB1.out.grown hgr HB1.out.size fun q hq => (HO1.out.ge q hq).1
          simp only [Act.put, List.setIfInBounds_toArray, List.set_cons_succ, List.set_cons_zero]
          clear ho hgr
          go_wp2_with fail
          go_ret2
          rw [HP.out]
          exact ⟨_, rfl, HO2.out, HB2.out⟩
        · rw [if_neg hr] at HP
          have h0 : 0 < q := by rw [HQ.out]; exact Nat.div_pos (by omega) (Nat.pow_pos (by decide))
          clear hr
          go_wp2_with fail
          go_ret2
          rw [HP.out]
          exact ⟨_, rfl, BOwn.nil _ _, HB.out⟩
  · have HP : Hid (putT L n s = ([], 1)) := by show _ = _; unfold putT; rw [if_neg hc]
    have hc' : s < 1 ∨ 8 < s := by have := mt (canB_iff s).2 hc; omega
    clear hc
    rcases hc' with hc' | hc'
    all_goals
      go_enter Try.func27, Try.ntmps27
      go_wp2_with fail
      go_ret2
      rw [HP.out]
      exact ⟨_, rfl, BOwn.nil _ _, Below.refl _ _⟩
end Go.Proofs.Ytjmbdoiibchokaa
namespace Go.Proofs.Ytjmbdoiibchokaa
open Go Go.Lib Go.RowKit
set_option maxRecDepth 20000

/-! The fields' bytes. -/
def bytesF (m : MsgM) (ns : List Nat) (c d : Bool) : List UInt8 := ns.flatMap (fieldB m) ++ ((if c then cubeB m.cube.1 m.cube.2 else []) ++ (if d then toB m.head else []))
theorem flat_take {m : MsgM} {ns : List Nat} {k j : Nat} (hj : ns[k]? = some j) (hl : j < 13) : (ns.take (k + 1)).flatMap (fieldB m) = (ns.take k).flatMap (fieldB m) ++ beB 6 (numM m j).toNat := by
  rw [List.take_add_one, hj, List.flatMap_append]
  congr 1
  show fieldB m j ++ [] = _
  rw [List.append_nil]
  unfold fieldB
  rw [if_neg (by omega), if_neg (by omega)]
theorem flat_len {m : MsgM} : ∀ {ns : List Nat}, (∀ j ∈ ns, j < 13) → (ns.flatMap (fieldB m)).length = ns.length * 6
  | [], _ => rfl
  | j :: ns, h => by
    have h1 := h j List.mem_cons_self
    rw [List.flatMap_cons, List.length_append, flat_len (fun x hx => h x (List.mem_cons_of_mem _ hx)), List.length_cons]
    have : (fieldB m j).length = 6 := by
      unfold fieldB
      rw [if_neg (by omega), if_neg (by omega), beB_len]
    omega
theorem bsl_head {w : World} {g : Nat} {m : MsgM} (hm : okM m) (h : w.heap[g]? = some (.cells (msA m) 27 (0, 0))) : BSl w (.slice (some ⟨g, 40, none⟩) 13 13) (toB m.head) := by
  have hH := hm.2.2.2
  have hl : (toB m.head).length = 13 := by rw [toB_len, hH.1]
  refine ⟨_, 13, by rw [hl], by rw [hl]; exact Nat.le_refl _, by unfold maxLen; omega, (fun e => by cases e), fun i hi => ⟨g, 40, _, _, _, rfl, h, ?_⟩⟩
  rw [hl] at hi
  rw [ms_head hm i hi, hv_at _ hH.1 i hi, ← (byt_at hH i hi).2, List.getD_eq_getElem?_getD, List.getElem?_eq_getElem (by omega)]
  rfl
set_option maxHeartbeats 8000000 in
theorem fbytes_any (h g : Nat) (ns : List Nat) (c d : Bool) (m : MsgM) (w : World) (H : FIn w h g ns m) (hl : ns.length ≤ 7) (hR : rightF m ns c = true) :
    Calls Try.prog 25 #[.agg (fvA h g ns.length c d)] w fun e w' => ∃ u, e = .returned u ∧ BOwn w.heap.size w' u (bytesF m ns c d) ∧ Below w.heap.size w w' := by
  obtain ⟨n, hn⟩ : ∃ n, n = ns.length := ⟨_, rfl⟩
  have HN : Hid (n = ns.length) := hn
  rw [← hn] at hl ⊢
  clear hn
  have HNS : Hid (∀ j ∈ ns, j < 13) := H.hn
  have HR : Hid (∀ j ∈ ns, inN (numM m j) = true) := by
    unfold rightF at hR
    rw [Bool.and_eq_true] at hR
    exact List.all_eq_true.1 hR.1
  have HRC : Hid (c = true → can m.cube.1 m.cube.2 = m.cube.1) := fun hc => by
    unfold rightF at hR
    rw [Bool.and_eq_true, hc] at hR
    have h2 := hR.2
    simp only [Bool.not_true, Bool.false_or] at h2
    unfold cubR at h2
    exact (beq_iff_eq.1 h2).symm
  clear hR
  have hgl := (Array.getElem?_eq_some_iff.1 H.hg).1
  have hhl := (Array.getElem?_eq_some_iff.1 H.hh).1
  obtain ⟨w1, hw1⟩ : ∃ w1, w1 = w.alloc (.cells (fvA h g n c d) 45) := ⟨_, rfl⟩
  have HI : Hid (FIn w1 h g ns m) := by rw [hw1]; exact H.alloc _
  have HF : Hid (w1.heap[w.heap.size]? = some (.cells (fvA h g n c d) 45 (0, 0))) := by rw [hw1]; exact heap_new _ _ _ rfl
  have HB : Hid (Below w.heap.size w w1) := by rw [hw1]; exact (Below.refl _ _).alloc (Nat.le_refl _) _
  have c0 : w1.cell? ⟨w.heap.size, 0, none⟩ = some (.slice (some ⟨h, 0, none⟩) n n) := by rw [hw1, fv_cells]; rfl
  rw [hw1] at c0
  clear H
  go_enter Try.func25, Try.ntmps25
  go_wp2_with fail
  rw [← hw1] at c0 ⊢
  clear hw1 c0
  go_loopw [3, 9] (fun b i W => ∃ k : Nat, k ≤ n ∧ i = .int .i64 k ∧ BOwn w.heap.size W b ((ns.take k).flatMap (fieldB m)) ∧ FIn W h g ns m ∧ W.heap[w.heap.size]? = some (.cells (fvA h g n c d) 45 (0, 0)) ∧ Below w.heap.size w W) (fun _ i _ => n - (intOf i).toNat)
  case atStart => exact ⟨0, Nat.zero_le _, rfl, BOwn.nil _ _, HI.out, HF.out, HB.out⟩
  case round =>
    clear HI HF HB
    obtain ⟨k, hk, rfl, hO, hI, hF, hB⟩ := hrel
    obtain ⟨ob, nb, cb, rfl⟩ := val_slice hO.sl
    have HO : Hid (BOwn w.heap.size wr (.slice ob nb cb) ((ns.take k).flatMap (fieldB m))) := hO
    have HI : Hid (FIn wr h g ns m) := hI
    have HF : Hid (wr.heap[w.heap.size]? = some (.cells (fvA h g n c d) 45 (0, 0))) := hF
    have HB : Hid (Below w.heap.size w wr) := hB
    have hsz := (Array.getElem?_eq_some_iff.1 hF).1
    clear hO hI hF hB
    have HLN : Hid (((ns.take k).flatMap (fieldB m)).length ≤ 42) := by
      show _ ≤ _
      rw [flat_len (fun x hx => HNS.out x (List.mem_of_mem_take hx)), List.length_take]
      omega
    by_cases hlt : k < n
    · obtain ⟨j, hj⟩ : ∃ j, ns[k]? = some j := ⟨_, List.getElem?_eq_getElem (by rw [← HN.out]; exact hlt)⟩
      obtain ⟨e1, e2, hj13⟩ := HI.out.at hj
      have HT : Hid ((ns.take (k + 1)).flatMap (fieldB m) = (ns.take k).flatMap (fieldB m) ++ beB 6 (numM m j).toNat) := flat_take hj hj13
      have hx := (inN_iff _).1 (HR.out j (List.mem_of_getElem? hj))
      obtain ⟨p, hp⟩ : ∃ p : Nat, numM m j = p := ⟨(numM m j).toNat, by omega⟩
      rw [hp] at e2 hx HT
      have hp2 : p ≤ 281474976710655 := by omega
      have CP : Hid (∀ W, Below wr.heap.size wr W → Calls Try.prog 41 #[.slice ob nb cb, .int .u64 (p : Int), .int .i64 6] W fun e w' => ∃ u, e = .returned (.tuple #[u, .int .i64 0]) ∧ BOwn W.heap.size w' u ((ns.take k).flatMap (fieldB m) ++ beB 6 p) ∧ Below W.heap.size W w') := fun W hW => by
        have hq : putT ((ns.take k).flatMap (fieldB m)) p 6 = ((ns.take k).flatMap (fieldB m) ++ beB 6 p, 0) := by
          unfold putT
          rw [if_pos (by decide), if_pos (by show p < 256 ^ 6; omega)]
          rfl
        have := put_any (.slice ob nb cb) _ p 6 W (HO.out.sl.below hW) (by have := HLN.out; omega)
        rw [hq] at this
        exact this
      clear hj hp hx
      go_wp2_with fail
      refine (CP.out _ (Below.refl _ _)).mono ?_
      rintro e w2 ⟨u, rfl, hO, hb⟩
      have HO2 : Hid (BOwn w.heap.size w2 u ((ns.take (k + 1)).flatMap (fieldB m))) := by
        show BOwn _ _ _ _
        rw [HT.out]
        exact hO.base HB.out.size
      have HI2 : Hid (FIn w2 h g ns m) := HI.out.below hb
      have HF2 : Hid (w2.heap[w.heap.size]? = some (.cells (fvA h g n c d) 45 (0, 0))) := (hb.block _ hsz).trans HF.out
      have HB2 : Hid (Below w.heap.size w w2) := HB.out.trans (hb.mono HB.out.size)
      clear hO hb
      go_wp2_with fail
      exact ⟨⟨k + 1, by omega, by go_num, HO2.out, HI2.out, HF2.out, HB2.out⟩, by simp [intOf]; omega⟩
    · obtain rfl : k = n := by omega
      have HO2 : Hid (BOwn w.heap.size wr (.slice ob nb cb) (ns.flatMap (fieldB m))) := by
        have := HO.out
        rw [HN.out, List.take_length] at this
        exact this
      have HLN2 : Hid ((ns.flatMap (fieldB m)).length ≤ 42) := by
        have := HLN.out
        rw [HN.out, List.take_length] at this
        exact this
      clear HO HLN
      have hgm := HI.out.hg
      have hmm := HI.out.hm
      have c1 : wr.cell? ⟨w.heap.size, 1, none⟩ = some (ptrC g c) := cell_of_row _ _ _ _ _ _ HF.out
      have c2 : wr.cell? ⟨w.heap.size, 2, none⟩ = some (ptrH g d) := cell_of_row _ _ _ _ _ _ HF.out
      cases c with
      | false =>
        have c1' : wr.cell? ⟨w.heap.size, 1, none⟩ = some (.pointer none) := c1
        clear c1
        cases d with
        | false =>
          have c2' : wr.cell? ⟨w.heap.size, 2, none⟩ = some (.pointer none) := c2
          clear c2
          go_wp2_with fail
          go_ret
          refine ⟨_, rfl, ?_, HB.out⟩
          have := HO2.out
          unfold bytesF
          simpa using this
        | true =>
          have c2' : wr.cell? ⟨w.heap.size, 2, none⟩ = some (.pointer (some ⟨g, 40, none⟩)) := c2
          clear c2
          go_wp2_with (first
            | (at_builtin; refine of_stopW ?_))
          unfold StopW
          refine wl_appW rfl _ _ rfl w.heap.size (.slice ob nb cb) _ _ (toB m.head) rfl HO2.out rfl (bsl_head hmm hgm) (by have := HLN2.out; rw [toB_len, hmm.2.2.2.1]; omega) HB.out.size ?_
          intro v' w' ho hgr _
          have HO3 : Hid (BOwn w.heap.size w' v' (ns.flatMap (fieldB m) ++ toB m.head)) := ho
          have HB3 : Hid (Below w.heap.size w w') := HB.out.grown hgr HB.out.size fun q hq => (HO2.out.ge q hq).1
          clear ho hgr
          try simp only [Act.put, List.setIfInBounds_toArray, List.set_cons_succ, List.set_cons_zero]
          go_wp2_with fail
          go_ret
          refine ⟨_, rfl, ?_, HB3.out⟩
          have := HO3.out
          unfold bytesF
          simpa using this
      | true =>
        have c1' : wr.cell? ⟨w.heap.size, 1, none⟩ = some (.pointer (some ⟨g, 14, none⟩)) := c1
        clear c1 c2
        have CC : Hid (∀ W, Below wr.heap.size wr W → Calls Try.prog 42 #[.slice ob nb cb, .agg (cv m.cube.1 m.cube.2)] W fun e w' => ∃ u, e = .returned u ∧ BOwn W.heap.size w' u (ns.flatMap (fieldB m) ++ cubeB m.cube.1 m.cube.2) ∧ Below W.heap.size W w') := fun W hW => by
          have := putCube_any (.slice ob nb cb) _ m.cube.1 m.cube.2 hmm.2.1 hmm.2.2.1 W (HO2.out.sl.below hW) (by have := HLN2.out; omega)
          rw [HRC.out rfl] at this
          exact this
        go_wp2_with (first | ((with_reducible refine wl_gl16 25 _ rfl ?_); refine wl_loadA CuGOk rfl _ rfl g 14 rfl _ _ _ (cv m.cube.1 m.cube.2) (cv_size _ _ hmm.2.1.1 hmm.2.2.1.1) hgm (ms_cube hmm) ?_))
        refine (CC.out _ (Below.refl _ _)).mono ?_
        rintro e w2 ⟨u, rfl, hO, hb⟩
        obtain ⟨o3, n3, c3, rfl⟩ := val_slice hO.sl
        have HO3 : Hid (BOwn w.heap.size w2 (.slice o3 n3 c3) (ns.flatMap (fieldB m) ++ cubeB m.cube.1 m.cube.2)) := hO.base HB.out.size
        have HL3 : Hid ((ns.flatMap (fieldB m) ++ cubeB m.cube.1 m.cube.2).length ≤ 68) := by
          show _ ≤ _
          have := HLN2.out
          unfold cubeB
          rw [List.length_append, List.length_append, toB_len, toB_len, hmm.2.1.1, hmm.2.2.1.1]
          omega
        have hI2 : FIn w2 h g ns m := HI.out.below hb
        have c2 : w2.cell? ⟨w.heap.size, 2, none⟩ = some (ptrH g d) := cell_of_row _ _ _ _ _ _ ((hb.block _ hsz).trans HF.out)
        have HB2 : Hid (Below w.heap.size w w2) := HB.out.trans (hb.mono HB.out.size)
        have hg2 := hI2.hg
        clear hO hb hI2 c1' hgm
        cases d with
        | false =>
          have c2' : w2.cell? ⟨w.heap.size, 2, none⟩ = some (.pointer none) := c2
          clear c2
          go_wp2_with fail
          go_ret
          refine ⟨_, rfl, ?_, HB2.out⟩
          have := HO3.out
          unfold bytesF
          simpa using this
        | true =>
          have c2' : w2.cell? ⟨w.heap.size, 2, none⟩ = some (.pointer (some ⟨g, 40, none⟩)) := c2
          clear c2
          go_wp2_with (first
            | (at_builtin; refine of_stopW ?_))
          unfold StopW
          refine wl_appW rfl _ _ rfl w.heap.size (.slice o3 n3 c3) _ _ (toB m.head) rfl HO3.out rfl (bsl_head hmm hg2) (by have := HL3.out; rw [toB_len, hmm.2.2.2.1]; omega) HB2.out.size ?_
          intro v' w' ho hgr _
          have HO4 : Hid (BOwn w.heap.size w' v' ((ns.flatMap (fieldB m) ++ cubeB m.cube.1 m.cube.2) ++ toB m.head)) := ho
          have HB3 : Hid (Below w.heap.size w w') := HB2.out.grown hgr HB2.out.size fun q hq => (HO3.out.ge q hq).1
          clear ho hgr
          try simp only [Act.put, List.setIfInBounds_toArray, List.set_cons_succ, List.set_cons_zero]
          go_wp2_with fail
          go_ret
          refine ⟨_, rfl, ?_, HB3.out⟩
          have := HO4.out
          unfold bytesF
          simpa using this
end Go.Proofs.Ytjmbdoiibchokaa
namespace Go.Proofs.Ytjmbdoiibchokaa
open Go Go.RowKit
set_option maxRecDepth 20000

/-- What TakeCube answers. -/
def tcT (L : List UInt8) (p : Int) : List Int × List Int × Int :=
  if 0 ≤ p then
    if p + 26 ≤ L.length then
      if (nI ((L.drop p.toNat).take 13) == can (nI ((L.drop p.toNat).take 13)) (nI ((L.drop (p.toNat + 13)).take 13))) = true then (nI ((L.drop p.toNat).take 13), nI ((L.drop (p.toNat + 13)).take 13), 0) else (Z, Z, 12)
    else (Z, Z, 12)
  else (Z, Z, 1)

/-- Thirteen bytes are laid over the first, or the second, half of a cube. -/
theorem lay_val (V M : List Int) (B : List UInt8) (hV : V.length = 13) (hB : B.length = 13) : ((cv V M).toList.take 0 ++ (Lib.byteCells B ++ (cv V M).toList.drop (0 + (Lib.byteCells B).length))).toArray = cv (nI B) M := by
  have e : (Lib.byteCells B) = (nI B).map (Value.int .u8) := by unfold Lib.byteCells nI; rw [List.map_map]; rfl
  rw [List.take_zero, List.nil_append, Lib.byteCells_length, hB, e]
  unfold cv hv
  simp only [List.map_append]
  rw [List.drop_append_of_le_length (by simp; omega), List.drop_of_length_le (by simp; omega), List.nil_append]
theorem lay_mask (V M : List Int) (B : List UInt8) (hV : V.length = 13) (hM : M.length = 13) (hB : B.length = 13) : ((cv V M).toList.take 13 ++ (Lib.byteCells B ++ (cv V M).toList.drop (13 + (Lib.byteCells B).length))).toArray = cv V (nI B) := by
  have e : (Lib.byteCells B) = (nI B).map (Value.int .u8) := by unfold Lib.byteCells nI; rw [List.map_map]; rfl
  rw [Lib.byteCells_length, hB, e]
  unfold cv hv
  simp only [List.map_append]
  rw [List.drop_of_length_le (by simp; omega), List.append_nil, List.take_append_of_le_length (by simp; omega), List.take_of_length_le (by simp; omega)]
/-- A copy of bytes over a part of a cube's block. -/
theorem wl_copyW {ops : Array Oper} {rest : List Oper} {o : Oper} {a : Act} {w : World} {Q : Exit → Act → World → Prop} (hgd : o.guard = none) (d s : Operand) (ho : o.op = .call { callee := .builtin .copy, args := #[d, s], argTypes := #[30, 30] })
    (g off : Nat) (V M : List Int) (hV : V.length = 13) (hM : M.length = 13) (hoff : off = 0 ∨ off = 13) (hd : a.eval d = .slice (some ⟨g, off, none⟩) 13 13) (u : Value) (hs : a.eval s = u) (L : List UInt8) (hL : BSl w u L) (hl : 13 ≤ L.length) (hg : w.heap[g]? = some (.cells (cv V M) 25 (0, 0)))
    (h : wpList Try.prog ops Q rest (a.put o.dst (.int .i64 13)) (w.setRow g (if off = 0 then cv (nI (L.take 13)) M else cv V (nI (L.take 13))))) : wpList Try.prog ops Q (o :: rest) a w := by
  obtain ⟨oa, cap, rfl, h1, h2, h3, h4⟩ := hL
  have hB : (L.take 13).length = 13 := by simp; omega
  obtain ⟨gs, os, _, _, _, rfl, _⟩ := h4 0 (by omega)
  refine wpList_copy_own hgd d s 30 30 ho 5 Try.underlying30 (by kernel_rfl) g off 13 13 ⟨gs, os, none⟩ L.length cap hd hs (cv V M) 25 hg (Lib.byteCells (L.take 13)) ?_ ?_ ?_ ?_ ?_
  · rw [Lib.byteCells_length, hB]; exact (Nat.min_eq_right hl).symm
  · intro j v hj
    have hjl : j < 13 := by
      have := (List.getElem?_eq_some_iff.1 hj).1
      rw [Lib.byteCells_length, hB] at this
      exact this
    obtain ⟨g', off', cur, t, fr, e, h5, h6⟩ := h4 j (by omega)
    simp only [Option.some.injEq, Addr.mk.injEq, and_true] at e
    obtain ⟨rfl, rfl⟩ := e
    rw [add_form, cell_of_row _ _ _ _ _ _ h5, h6, ← hj, bcells_at _ j (by rw [hB]; exact hjl)]
    simp
  · rw [Lib.byteCells_length, hB, cv_size V M hV hM]; rcases hoff with rfl | rfl <;> omega
  · intro v hv
    unfold Lib.byteCells at hv
    obtain ⟨b, _, rfl⟩ := List.mem_map.1 hv
    rfl
  · rw [show goInt ((Lib.byteCells (L.take 13)).length : Nat) = .int .i64 13 by rw [Lib.byteCells_length, hB]; rfl]
    rcases hoff with rfl | rfl
    · rw [lay_val V M _ hV hB]; exact h
    · rw [lay_mask V M _ hV hM hB]; exact h

set_option maxHeartbeats 8000000 in
theorem takeCube_any (v : Value) (L : List UInt8) (p : Int) (w : World) (hL : BSl w v L) (hp : p ≤ 9223372036854775807) :
    Calls Try.prog 46 #[v, .int .i64 p] w fun e w' => e = .returned (.tuple #[.agg (cv (tcT L p).1 (tcT L p).2.1), .int .i64 (tcT L p).2.2]) ∧ Below w.heap.size w w' := by
  have HL : Hid (BSl w v L) := hL
  obtain ⟨ov, cx, hv, hc1, hc2⟩ := hL.slice
  subst hv
  clear hL
  obtain ⟨n, hn⟩ : ∃ n, n = L.length := ⟨_, rfl⟩
  have HN : Hid (n = L.length) := hn
  rw [← hn] at HL hc1 ⊢
  clear hn
  have hzl := Z_byt.1
  have g0 := heap_new w (.cells zeroC 25) _ rfl
  have B0 : Below w.heap.size w (w.alloc (.cells zeroC 25)) := (Below.refl _ _).alloc (Nat.le_refl _) _
  have hcm := hc2
  unfold maxLen at hc2
  by_cases h0 : 0 ≤ p
  · obtain ⟨k, rfl⟩ : ∃ k : Nat, p = k := ⟨p.toNat, by omega⟩
    have CR : Hid (∀ W, Calls Try.prog 51 #[.slice ov n cx, .int .i64 (k : Int), .int .i64 26] W fun e w' => e = .returned (.bool (decide ((26 : Int) ≤ (n : Int) - k))) ∧ w' = W) := reaches_any ov n cx (by omega) k 26 h0 hp
    by_cases hr : k + 26 ≤ n
    · have hd : decide ((26 : Int) ≤ (n : Int) - k) = true := by simp; omega
      rw [hd] at CR
      obtain ⟨g, off, c, rfl, _, _⟩ := HL.out.at k (by omega)
      obtain ⟨V, hV⟩ : ∃ V, V = nI ((L.drop k).take 13) := ⟨_, rfl⟩
      obtain ⟨M, hM⟩ : ∃ M, M = nI ((L.drop (k + 13)).take 13) := ⟨_, rfl⟩
      have hVb : Byt V := by rw [hV]; exact nI_byt _ (by simp; rw [← HN.out]; omega)
      have hMb : Byt M := by rw [hM]; exact nI_byt _ (by simp; rw [← HN.out]; omega)
      have HT : Hid (tcT L k = if (V == can V M) = true then (V, M, 0) else (Z, Z, 12)) := by
        show _ = _; unfold tcT; rw [if_pos h0, if_pos (by rw [← HN.out]; omega), hV, hM, Int.toNat_natCast]
      have HVM : Hid (V = nI ((L.drop k).take 13) ∧ M = nI ((L.drop (k + 13)).take 13)) := ⟨hV, hM⟩
      have CQ : Hid (∀ W, Calls Try.prog 36 #[.agg (cv V M)] W fun e w' => e = .returned (.bool (V == can V M)) ∧ Below W.heap.size W w') := wright_any V M hVb hMb
      have hVl := hVb.1
      have hMl := hMb.1
      have HP1 : Hid (∀ W, Below w.heap.size w W → BSl W (.slice (some ⟨g, off + k, none⟩) (n - k) (cx - k)) (L.drop k)) := fun W hW => by
        have := (HL.out.below hW).part g off k (n - k) (cx - k) rfl (by omega) (by omega) (by omega)
        rw [List.take_of_length_le (by rw [List.length_drop, ← HN.out]; exact Nat.le_refl _)] at this
        exact this
      have HP2 : Hid (∀ W, Below w.heap.size w W → BSl W (.slice (some ⟨g, off + (k + 13), none⟩) (n - (k + 13)) (cx - (k + 13))) (L.drop (k + 13))) := fun W hW => by
        have := (HL.out.below hW).part g off (k + 13) (n - (k + 13)) (cx - (k + 13)) rfl (by omega) (by omega) (by omega)
        rw [List.take_of_length_le (by rw [List.length_drop, ← HN.out]; exact Nat.le_refl _)] at this
        exact this
      clear hV hM hVb hMb hd hcm
      go_enter Try.func46, Try.ntmps46
      go_wp2_with (first
        | (go_at_call 51; refine (CR.out _).mono ?_; rintro e w1 ⟨rfl, rfl⟩))
      have B1 : Below w.heap.size w ((w.alloc (.cells zeroC 25)).alloc (.cells zeroC 25)) := B0.alloc B0.size _
      have k0 := heap_past (w.alloc (.cells zeroC 25)) (.cells zeroC 25) _ _ g0
      have k1 := heap_new (w.alloc (.cells zeroC 25)) (.cells zeroC 25) (w.heap.size + 1) (by simp)
      obtain ⟨W1, hW1⟩ : ∃ W, W = (w.alloc (.cells zeroC 25)).alloc (.cells zeroC 25) := ⟨_, rfl⟩
      rw [← hW1] at B1 k0 k1
      rw [zeroC_eq] at k1
      show Code.wp Try.prog _ _ _ ((w.alloc (.cells zeroC 25)).alloc (.cells zeroC 25))
      rw [← hW1]
      clear hW1 g0 B0
      refine region_cut (fun a a' w' => ∃ y15 y16 y17 y18 y19 y20, a' = ((((((a.put (some 15) y15).put (some 16) y16).put (some 17) y17).put (some 18) y18).put (some 19) y19).put (some 20) y20) ∧ w' = W1.drew.setRow (w.heap.size + 1) (cv V Z)) ?_ ?_
      · refine region_beginS (fun _ => True) 6 rfl (by kernel_rfl) ?_
        refine region_reads 0 5 1 rfl (by kernel_rfl) (by kernel_rfl) (by kernel_rfl) (by intro d v c a w h; exact absurd h.1 (by simp)) trivial ?_
        simp only [List.drop_zero, List.take_succ_cons, List.take_zero]
        go_big_quiet_step (fail)
        go_big_quiet_step (fail)
        go_big_quiet_step (fail)
        go_big_quiet_step (fail)
        go_big_quiet_step (fail)
        refine wpQuiet_nil ?_
        refine wpAnyH_all (rs := [5]) (by kernel_rfl) (by decide) ?_
        intro i hi
        obtain rfl := List.mem_singleton.1 hi
        refine wpOp_of_listW rfl ?_
        refine wl_copyW rfl _ _ rfl (w.heap.size + 1) 0 Z Z hzl hzl (.inl rfl) rfl (.slice (some ⟨g, off + k, none⟩) (n - k) (cx - k)) rfl (L.drop k) (HP1.out _ B1.drew) (by simp; rw [← HN.out]; omega) k1 ?_
        refine ⟨trivial, ?_⟩
        refine wpAnyH_done (by kernel_rfl) ?_ _
        rw [if_pos rfl, ← HVM.out.1]
        exact ⟨rfl, _, _, _, _, _, _, rfl, rfl⟩
      rintro a' w2 ⟨y15, y16, y17, y18, y19, y20, rfl, hw2⟩
      have B2 : Below w.heap.size w w2 := by rw [hw2]; exact below_setRow B1.drew (by omega) _
      have j0 : w2.heap[w.heap.size]? = some (.cells zeroC 25 (0, 0)) := by rw [hw2]; exact (setRow_other _ _ _ _ (by omega)).trans k0
      have j1 : w2.heap[w.heap.size + 1]? = some (.cells (cv V Z) 25 (0, 0)) := by rw [hw2]; exact setRow_heap _ _ _ _ _ _ k1
      clear hw2 k0 k1 B1
      simp only [Act.put, List.setIfInBounds_toArray, List.set_cons_succ, List.set_cons_zero]
      go_wp2_with fail
      refine region_cut (fun a a' w' => ∃ y21 y22 y23 y24 y25 y26 y27, a' = (((((((a.put (some 21) y21).put (some 22) y22).put (some 23) y23).put (some 24) y24).put (some 25) y25).put (some 26) y26).put (some 27) y27) ∧ w' = w2.drew.setRow (w.heap.size + 1) (cv V M)) ?_ ?_
      · refine region_beginS (fun _ => True) 7 rfl (by kernel_rfl) ?_
        refine region_reads 0 6 1 rfl (by kernel_rfl) (by kernel_rfl) (by kernel_rfl) (by intro d v c a w h; exact absurd h.1 (by simp)) trivial ?_
        simp only [List.drop_zero, List.take_succ_cons, List.take_zero]
        go_big_quiet_step (fail)
        go_big_quiet_step (fail)
        go_big_quiet_step (fail)
        go_big_quiet_step (fail)
        go_big_quiet_step (fail)
        go_big_quiet_step (fail)
        refine wpQuiet_nil ?_
        refine wpAnyH_all (rs := [6]) (by kernel_rfl) (by decide) ?_
        intro i hi
        obtain rfl := List.mem_singleton.1 hi
        refine wpOp_of_listW rfl ?_
        refine wl_copyW rfl _ _ rfl (w.heap.size + 1) 13 V Z hVl hzl (.inr rfl) rfl (.slice (some ⟨g, off + (k + 13), none⟩) (n - (k + 13)) (cx - (k + 13))) rfl (L.drop (k + 13)) (HP2.out _ B2.drew) (by simp; rw [← HN.out]; omega) j1 ?_
        refine ⟨trivial, ?_⟩
        refine wpAnyH_done (by kernel_rfl) ?_ _
        rw [if_neg (by decide), ← HVM.out.2]
        exact ⟨rfl, _, _, _, _, _, _, _, rfl, rfl⟩
      rintro a' w3 ⟨y21, y22, y23, y24, y25, y26, y27, rfl, hw3⟩
      have B3 : Below w.heap.size w w3 := by rw [hw3]; exact below_setRow B2.drew (by omega) _
      have l0 : w3.heap[w.heap.size]? = some (.cells zeroC 25 (0, 0)) := by rw [hw3]; exact (setRow_other _ _ _ _ (by omega)).trans j0
      have l1 : w3.heap[w.heap.size + 1]? = some (.cells (cv V M) 25 (0, 0)) := by rw [hw3]; exact setRow_heap _ _ _ _ _ _ j1
      have hsz := (Array.getElem?_eq_some_iff.1 l1).1
      clear hw3 j0 j1 B2
      simp only [Act.put, List.setIfInBounds_toArray, List.set_cons_succ, List.set_cons_zero]
      go_wp2_with (first
        | (refine wl_loadC rfl _ rfl (w.heap.size + 1) rfl V M l1 hVl hMl ?_))
      refine (CQ.out _).mono ?_
      rintro e w4 ⟨rfl, hb4⟩
      have m0 : w4.heap[w.heap.size]? = some (.cells zeroC 25 (0, 0)) := (hb4.block _ (by omega)).trans l0
      have m1 : w4.heap[w.heap.size + 1]? = some (.cells (cv V M) 25 (0, 0)) := (hb4.block _ hsz).trans l1
      have B4 : Below w.heap.size w w4 := B3.trans (hb4.mono B3.size)
      clear l0 l1 B3 hb4
      by_cases hq : (V == can V M) = true
      · rw [if_pos hq] at HT
        obtain ⟨b, hb⟩ : ∃ b, b = (V == can V M) := ⟨_, rfl⟩
        rw [← hb] at hq ⊢
        subst hq
        clear hb
        go_wp2_with (first
          | (refine wl_loadC rfl _ rfl (w.heap.size + 1) rfl V M m1 hVl hMl ?_)
          | (refine wl_storeC rfl _ _ rfl w.heap.size V M rfl rfl _ m0 rfl hVl hMl _ rfl ?_))
        refine retCe (p := 4) (u := 5) rfl rfl w.heap.size rfl V M hVl hMl (setRow_heap _ _ _ _ _ _ m0) _ rfl ⟨?_, below_setRow B4 (Nat.le_refl _) _⟩
        rw [HT.out]; rfl
      · rw [if_neg hq] at HT
        have hq' : (V == can V M) = false := by simpa using hq
        obtain ⟨b, hb⟩ : ∃ b, b = (V == can V M) := ⟨_, rfl⟩
        rw [← hb] at hq' ⊢
        subst hq'
        clear hb hq
        go_wp2_with (first
          | (refine wl_zeroC rfl rfl ?_)
          | (refine wl_storeC rfl _ _ rfl w.heap.size Z Z rfl rfl _ m0 rfl hzl hzl _ rfl ?_))
        refine retCe (p := 4) (u := 5) rfl rfl w.heap.size rfl Z Z hzl hzl (setRow_heap _ _ _ _ _ _ m0) _ rfl ⟨?_, below_setRow B4 (Nat.le_refl _) _⟩
        rw [HT.out]; rfl
    · have hd : decide ((26 : Int) ≤ (n : Int) - k) = false := by simp; omega
      rw [hd] at CR
      have HT : Hid (tcT L k = (Z, Z, 12)) := by show _ = _; unfold tcT; rw [if_pos h0, if_neg (by rw [← HN.out]; omega)]
      clear hd hcm
      go_enter Try.func46, Try.ntmps46
      go_wp2_with (first
        | (go_at_call 51; refine (CR.out _).mono ?_; rintro e w1 ⟨rfl, rfl⟩)
        | (refine wl_zeroC rfl rfl ?_)
        | (refine wl_storeC rfl _ _ rfl w.heap.size Z Z rfl rfl _ g0 rfl hzl hzl _ rfl ?_))
      refine retCe (p := 4) (u := 5) rfl rfl w.heap.size rfl Z Z hzl hzl (setRow_heap _ _ _ _ _ _ g0) _ rfl ⟨?_, below_setRow B0 (Nat.le_refl _) _⟩
      rw [HT.out]; rfl
  · have HT : Hid (tcT L p = (Z, Z, 1)) := by show _ = _; unfold tcT; rw [if_neg h0]
    have hp0 : p < 0 := by omega
    go_enter Try.func46, Try.ntmps46
    go_wp2_with (first
      | (refine wl_zeroC rfl rfl ?_)
      | (refine wl_storeC rfl _ _ rfl w.heap.size Z Z rfl rfl _ g0 rfl hzl hzl _ rfl ?_))
    refine retCe (p := 4) (u := 5) rfl rfl w.heap.size rfl Z Z hzl hzl (setRow_heap _ _ _ _ _ _ g0) _ rfl ⟨?_, below_setRow B0 (Nat.le_refl _) _⟩
    rw [HT.out]; rfl
end Go.Proofs.Ytjmbdoiibchokaa
