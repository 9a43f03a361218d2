import Derived.Test.YtfbphblodankmaaWRef
import Derived.Test.YtfbphblodankmaaQTail
namespace Go.Proofs.Ytfbphblodankmaa
open Go Go.RowKit
set_option maxRecDepth 20000

set_option maxHeartbeats 2000000 in
theorem rtake_any (v : Value) (L : List UInt8) (p s : Int) (w : World) (hL : BSl w v L) :
    Calls Try.prog 14 #[v, .int .i64 p, .int .i64 s] w fun e w' => e = .returned (.tuple #[.int .u64 ((takeT L p s).1 : Int), .int .i64 (takeT L p s).2]) ∧ w' = w := by
  have HL : Hid (BSl w v L) := hL
  obtain ⟨ov, cv, hv, hc1, hc2⟩ := hL.slice
  subst hv
  clear hL
  obtain ⟨n, hn⟩ : ∃ n, n = L.length := ⟨_, rfl⟩
  have HN : Hid (n = L.length) := hn
  rw [← hn] at HL hc1 ⊢
  clear hn
  unfold maxLen at hc2
  by_cases hc : canB s = true
  · have hs := (canB_iff s).1 hc
    obtain ⟨m, rfl⟩ : ∃ m : Nat, s = m := ⟨s.toNat, by omega⟩
    have hs1 : 1 ≤ (m : Int) := hs.1
    have hs2 : (m : Int) ≤ 8 := hs.2
    by_cases h0 : 0 ≤ p
    · obtain ⟨q, rfl⟩ : ∃ q : Nat, p = q := ⟨p.toNat, by omega⟩
      by_cases hr : q + m ≤ n
      · have HP : Hid (takeT L q m = (valB ((L.drop q).take m), 0)) := by
          show _ = _; unfold takeT; rw [if_pos ⟨hc, h0⟩, if_pos (by rw [← HN.out]; omega)]; simp
        have hg : ¬ (n : Int) - m < q := by omega
        clear hc hs
        go_enter Try.func14, Try.ntmps14
        go_wp2_with fail
        go_loop [8, 9] (fun a i => ∃ k : Nat, k ≤ m ∧ i = .int .i64 k ∧ a = .int .u64 (valB (((L.drop q).take m).take k) : Int)) (fun _ i => m - (intOf i).toNat)
        case atStart => exact ⟨0, Nat.zero_le _, rfl, rfl⟩
        case round =>
          obtain ⟨k, hk, rfl, rfl⟩ := hrel
          by_cases hlt : k < m
          · obtain ⟨g, off, c, rfl, hcc, hck⟩ := HL.out.at (q + k) (by omega)
            have HD : Hid (((L.drop q).take m)[k]? = some c) := by
              show _ = _
              rw [List.getElem?_take_of_lt hlt, List.getElem?_drop, hck]
            have hml : ((L.drop q).take m).length = m := by simp; rw [← HN.out]; omega
            have HV : Hid (valB (((L.drop q).take m).take (k + 1)) = valB (((L.drop q).take m).take k) * 256 + c.toNat) := valB_take _ k c HD.out
            have hv := valB_take7 ((L.drop q).take m) k (by omega) (by omega)
            obtain ⟨x, hx⟩ : ∃ x, x = valB (((L.drop q).take m).take k) := ⟨_, rfl⟩
            rw [← hx] at HV hv ⊢
            have hcl := c.toNat_lt
            clear hx hck hml
            go_wp2_with fail
            refine ⟨⟨k + 1, by omega, by go_num, ?_⟩, by simp [intOf]; omega⟩
            rw [HV.out]
            first | go_num | rfl
          · obtain rfl : k = m := by omega
            go_wp2_with fail
            go_ret2
            rw [HP.out, List.take_of_length_le (by simp; omega)]
            exact ⟨rfl, rfl⟩
      · have HP : Hid (takeT L q m = (0, 12)) := by
          show _ = _; unfold takeT; rw [if_pos ⟨hc, h0⟩, if_neg (by rw [← HN.out]; omega)]
        have hg : (n : Int) - m < q := by omega
        clear hc hs
        go_enter Try.func14, Try.ntmps14
        go_wp2_with fail
        go_ret2
        rw [HP.out]
        exact ⟨rfl, rfl⟩
    · have HP : Hid (takeT L p m = (0, 1)) := by
        show _ = _; unfold takeT; rw [if_neg (fun h => h0 h.2)]
      clear hc hs
      have h0' : p < 0 := by omega
      go_enter Try.func14, Try.ntmps14
      go_wp2_with fail
      go_ret2
      rw [HP.out]
      exact ⟨rfl, rfl⟩
  · have HP : Hid (takeT L p s = (0, 1)) := by
      show _ = _; unfold takeT; rw [if_neg (fun h => hc h.1)]
    have hc' : s < 1 ∨ 8 < s := by have := mt (canB_iff s).2 hc; omega
    clear hc
    rcases hc' with hc' | hc'
    all_goals
      go_enter Try.func14, Try.ntmps14
      go_wp2_with fail
      go_ret2
      rw [HP.out]
      exact ⟨rfl, rfl⟩

set_option maxHeartbeats 2000000 in
theorem rseal_any (k : Int) (v : Value) (L : List UInt8) (w : World) (hL : BSl w v L) :
    Calls Try.prog 21 #[.int .i64 k, v] w fun e w' => ∃ u, e = .returned (.tuple #[u, .int .i64 (sealT k L).2]) ∧ BOwn w.heap.size w' u (sealT k L).1 ∧ Below w.heap.size w w' := by
  have HL : Hid (BSl w v L) := hL
  obtain ⟨ov, cv, hv, hc1, hc2⟩ := hL.slice
  subst hv
  clear hL
  obtain ⟨n, hn⟩ : ∃ n, n = L.length := ⟨_, rfl⟩
  have HN : Hid (n = L.length) := hn
  rw [← hn] at HL hc1 ⊢
  clear hn
  unfold maxLen at hc2
  by_cases h0 : 0 ≤ k
  · by_cases h1 : k ≤ 255
    · obtain ⟨q, rfl⟩ : ∃ q : Nat, k = q := ⟨k.toNat, by omega⟩
      by_cases h2 : n ≤ 65535
      · have HP : Hid (sealT q L = (sealB q L, 0)) := by show _ = _; unfold sealT; rw [if_pos ⟨h0, h1⟩, if_pos (by rw [← HN.out]; exact h2)]; simp
        have CP : Hid (∀ W, Calls Try.prog 11 #[.slice none 0 0, .int .u64 (n : Int), .int .i64 2] W fun e w' => ∃ u, e = .returned (.tuple #[u, .int .i64 0]) ∧ BOwn W.heap.size w' u (beB 2 n) ∧ Below W.heap.size W w') := fun W => by
          have := rput_any (.slice none 0 0) [] n 2 W (bsl_nil W) (by simp) (by omega)
          have e : putT [] n 2 = (beB 2 n, 0) := by unfold putT; rw [if_pos (by rfl), if_pos (by simp; omega)]; simp
          rw [e] at this
          exact this
        have HF : Hid (beB 2 n ++ [UInt8.ofNat q] ++ L = sealB q L) := by show _ = _; unfold sealB; rw [HN.out]; simp
        have hq : q % 256 = q := Nat.mod_eq_of_lt (by omega)
        have HC : Hid ((q : Int) = ((UInt8.ofNat q).toNat : Int)) := by show _ = _; rw [UInt8.toNat_ofNat']; omega
        have hn : ¬ (65535 : Int) < (n : Int) := by omega
        clear hq
        go_enter Try.func21, Try.ntmps21
        go_wp2_with fail
        refine (CP.out _).mono ?_
        rintro e w1 ⟨u, rfl, ho1, hb1⟩
        obtain ⟨ou, nu, cu, rfl⟩ := val_slice ho1.sl
        have HO1 : Hid (BOwn w.heap.size w1 (.slice ou nu cu) (beB 2 n)) := ho1
        have HB1 : Hid (Below w.heap.size w w1) := hb1
        have hz1 := hb1.size
        clear ho1 hb1
        go_wp2_with (first
          | (at_builtin; refine of_stopW ?_))
        unfold StopW
        have HS : Hid (BSl (w1.alloc (.cells #[.int .u8 (q : Int)] 5)) (.slice (some ⟨w1.heap.size, 0, none⟩) 1 1) [UInt8.ofNat q]) := by
          have := (own_one w1 (UInt8.ofNat q)).sl
          rw [← HC.out] at this
          exact this
        have HO2 : Hid (BOwn w.heap.size (w1.alloc (.cells #[.int .u8 (q : Int)] 5)) (.slice ou nu cu) (beB 2 n)) := HO1.out.below ((Below.refl _ _).alloc (Nat.le_refl _) _)
        have HB2 : Hid (Below w.heap.size w (w1.alloc (.cells #[.int .u8 (q : Int)] 5))) := HB1.out.alloc hz1 _
        refine wl_appW rfl _ _ rfl w.heap.size (.slice ou nu cu) _ (beB 2 n) [UInt8.ofNat q] rfl HO2.out rfl HS.out (by rw [beB_len]; simp) HB2.out.size ?_
        intro v' w3 ho hgr _
        obtain ⟨o3, n3, c3, rfl⟩ := val_slice ho.sl
        have HO3 : Hid (BOwn w.heap.size w3 (.slice o3 n3 c3) (beB 2 n ++ [UInt8.ofNat q])) := ho
        have HB3 : Hid (Below w.heap.size w w3) := HB2.out.grown hgr HB2.out.size fun q hq => (HO2.out.ge q hq).1
        have HL3 : Hid (BSl w3 (.slice ov n cv) L) := HL.out.below HB3.out
        simp only [Act.put, List.setIfInBounds_toArray, List.set_cons_succ, List.set_cons_zero]
        clear ho hgr HO2 HB2 HS
        go_wp2_with (first
          | (at_builtin; refine of_stopW ?_))
        unfold StopW
        refine wl_appW rfl _ _ rfl w.heap.size (.slice o3 n3 c3) (.slice ov n cv) _ L rfl HO3.out rfl HL3.out (by rw [List.length_append, beB_len, ← HN.out]; simp; omega) HB3.out.size ?_
        intro v4 w4 ho hgr _
        have HO4 : Hid (BOwn w.heap.size w4 v4 (sealB q L)) := by rw [← HF.out]; exact ho
        have HB4 : Hid (Below w.heap.size w w4) := HB3.out.grown hgr HB3.out.size fun q hq => (HO3.out.ge q hq).1
        simp only [Act.put, List.setIfInBounds_toArray, List.set_cons_succ, List.set_cons_zero]
        clear ho hgr
        go_wp2_with fail
        go_ret2
        rw [HP.out]
        exact ⟨_, rfl, HO4.out, HB4.out⟩
      · have HP : Hid (sealT q L = ([], 5)) := by show _ = _; unfold sealT; rw [if_pos ⟨h0, h1⟩, if_neg (by rw [← HN.out]; exact h2)]
        have hn : (65535 : Int) < (n : Int) := by omega
        go_enter Try.func21, Try.ntmps21
        go_wp2_with fail
        go_ret2
        rw [HP.out]
        exact ⟨_, rfl, BOwn.nil _ _, Below.refl _ _⟩
    · have HP : Hid (sealT k L = ([], 1)) := by show _ = _; unfold sealT; rw [if_neg (fun h => h1 h.2)]
      have hn : (255 : Int) < k := by omega
      go_enter Try.func21, Try.ntmps21
      go_wp2_with fail
      go_ret2
      rw [HP.out]
      exact ⟨_, rfl, BOwn.nil _ _, Below.refl _ _⟩
  · have HP : Hid (sealT k L = ([], 1)) := by show _ = _; unfold sealT; rw [if_neg (fun h => h0 h.1)]
    have hn : k < 0 := by omega
    go_enter Try.func21, Try.ntmps21
    go_wp2_with fail
    go_ret2
    rw [HP.out]
    exact ⟨_, rfl, BOwn.nil _ _, Below.refl _ _⟩
end Go.Proofs.Ytfbphblodankmaa
