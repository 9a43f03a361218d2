import Derived.Test.YtfbphblodankmaaWAwake
namespace Go.Proofs.Ytfbphblodankmaa
open Go Go.RowKit
set_option maxRecDepth 20000

theorem sealT_cases (k : Int) (L : List UInt8) : ((sealT k L).1 = [] ∧ ((sealT k L).2 == 0) = false) ∨ (∃ q : Nat, k = q ∧ q < 256 ∧ L.length ≤ 65535 ∧ sealT k L = (sealB q L, 0)) := by
  unfold sealT
  by_cases hk : 0 ≤ k ∧ k ≤ 255
  · rw [if_pos hk]
    obtain ⟨q, rfl⟩ : ∃ q : Nat, k = q := ⟨k.toNat, by omega⟩
    by_cases hl : L.length ≤ 65535
    · rw [if_pos hl]
      exact .inr ⟨q, rfl, by omega, hl, by simp⟩
    · rw [if_neg hl]
      exact .inl ⟨rfl, rfl⟩
  · rw [if_neg hk]
    exact .inl ⟨rfl, rfl⟩
theorem openT_seal (q : Nat) (hq : q < 256) (L : List UInt8) (hl : L.length ≤ 65535) : openT (sealB q L) = ((q : Int), L, 0) := by
  unfold openT; rw [open_seal q hq L hl]
theorem openT_more (q : Nat) (L : List UInt8) (hl : L.length ≤ 65535) (m : UInt8) : openT (sealB q L ++ [m]) = (0, [], 12) := by
  unfold openT; rw [open_more q L hl m]
theorem openT_less (q : Nat) (L : List UInt8) (hl : L.length ≤ 65535) : openT ((sealB q L).take ((sealB q L).length - 1)) = (0, [], 12) := by
  unfold openT; rw [open_less q L hl]

set_option maxHeartbeats 8000000 in
theorem lawWSeals_any (k : Int) (v : Value) (L : List UInt8) (m : UInt8) (w : World) (hL : BSl w v L) :
    Calls Try.prog 6 #[.int .i64 k, v, .int .u8 (m.toNat : Int)] w fun e w' => e = .returned (.bool true) ∧ Below w.heap.size w w' := by
  have CA : Hid (∀ W, Calls Try.prog 9 #[] W fun e w' => e = .returned (.bool true) ∧ Below W.heap.size W w') := awake9_any
  have HL : Hid (BSl w v L) := hL
  obtain ⟨ov, cv, hv, hc1, hc2⟩ := hL.slice
  subst hv
  obtain ⟨nl, hnl⟩ : ∃ nl, nl = L.length := ⟨_, rfl⟩
  have HN : Hid (nl = L.length) := hnl
  rw [← hnl] at HL hc1 hL ⊢
  unfold maxLen at hc2
  clear hnl
  obtain ⟨D, hD⟩ : ∃ D, D = (sealT k L).1 := ⟨_, rfl⟩
  obtain ⟨y, hy⟩ : ∃ y, y = (sealT k L).2 := ⟨_, rfl⟩
  have CL : Hid (∀ W, Below w.heap.size w W → Calls Try.prog 20 #[.int .i64 k, .slice ov nl cv] W fun e w' => ∃ u, e = .returned (.tuple #[u, .int .i64 y]) ∧ BOwn W.heap.size w' u D ∧ Below W.heap.size W w') := fun W hW => by
    rw [hD, hy]; exact seal_any k _ L W (HL.out.below hW)
  have CR : Hid (∀ W, Below w.heap.size w W → Calls Try.prog 21 #[.int .i64 k, .slice ov nl cv] W fun e w' => ∃ u, e = .returned (.tuple #[u, .int .i64 y]) ∧ BOwn W.heap.size w' u D ∧ Below W.heap.size W w') := fun W hW => by
    rw [hD, hy]; exact rseal_any k _ L W (HL.out.below hW)
  have HCA : Hid ((D = [] ∧ (y == 0) = false) ∨ (∃ q : Nat, k = q ∧ q < 256 ∧ L.length ≤ 65535 ∧ D = sealB q L ∧ y = 0)) := by
    rw [hD, hy]
    rcases sealT_cases k L with h | ⟨q, h1, h2, h3, h4⟩
    · exact .inl h
    · exact .inr ⟨q, h1, h2, h3, by rw [h4], by rw [h4]⟩
  clear hL hD hy
  by_cases h7 : (70000 : Int) < (nl : Int)
  · go_enter Try.func6, Try.ntmps6
    go_wp2_with fail
    refine (CA.out _).mono ?_
    rintro e w1 ⟨rfl, hb⟩
    have HB : Hid (Below w.heap.size w w1) := hb
    clear hb
    go_wp2_with fail
    go_ret
    exact ⟨rfl, HB.out⟩
  go_enter Try.func6, Try.ntmps6
  go_wp2_with fail
  refine (CA.out _).mono ?_
  rintro e w1 ⟨rfl, hb⟩
  have HB : Hid (Below w.heap.size w w1) := hb
  clear hb
  go_wp2_with fail
  refine (CL.out _ HB.out).mono ?_
  rintro e w2 ⟨u, rfl, ho2, hb2⟩
  obtain ⟨o2, n2, c2, rfl⟩ := val_slice ho2.sl
  have HB2 : Hid (Below w.heap.size w w2) := HB.out.trans (hb2.mono HB.out.size)
  have HO2 : Hid (BSl w2 (.slice o2 n2 c2) D) := ho2.sl
  clear ho2 hb2
  go_wp2_with fail
  refine (CR.out _ HB2.out).mono ?_
  rintro e w3 ⟨u, rfl, ho3, hb3⟩
  obtain ⟨o3, n3, c3, rfl⟩ := val_slice ho3.sl
  have HB3 : Hid (Below w.heap.size w w3) := HB2.out.trans (hb3.mono HB2.out.size)
  have HO3 : Hid (BSl w3 (.slice o2 n2 c2) D) := HO2.out.below hb3
  have CS : Hid (∀ W, W = w3 → Calls Try.prog 12 #[.slice o2 n2 c2, .slice o3 n3 c3] W fun e w' => e = .returned (.bool true) ∧ w' = W) := fun W hW => by
    subst hW
    have := rsameB_any _ _ D D W HO3.out ho3.sl
    rw [beq_self_eq_true] at this
    exact this
  clear ho3 hb3
  rcases HCA.out with ⟨h1, h2⟩ | ⟨q, h1, h2, h3, h4, h5⟩
  · obtain rfl : n2 = 0 := by rw [HO3.out.len, h1]; rfl
    clear h1
    go_wp2_with (first
      | (go_at_call 12; refine (CS.out _ rfl).mono ?_; rintro e w4 ⟨rfl, rfl⟩))
    go_ret
    exact ⟨rfl, HB3.out⟩
  · subst h1 h5
    have HD : Hid (D = sealB q L) := h4
    have HQ : Hid (q < 256 ∧ L.length ≤ 65535) := ⟨h2, h3⟩
    have hn2 : n2 = nl + 3 := by rw [HO3.out.len, h4, seal_len, HN.out]
    subst hn2
    have CO : Hid (∀ W, Below w3.heap.size w3 W → Calls Try.prog 22 #[.slice o2 (nl + 3) c2] W fun e w' => ∃ u, e = .returned (.tuple #[.int .i64 (q : Int), u, .int .i64 0]) ∧ BOwn W.heap.size w' u L ∧ Below W.heap.size W w') := fun W hW => by
      have := wopen_any _ D W (HO3.out.below hW) (by rw [HD.out, seal_len]; omega)
      rw [HD.out, openT_seal q h2 L h3] at this
      exact this
    have CB : Hid (∀ W, Below w3.heap.size w3 W → Calls Try.prog 23 #[.slice o2 (nl + 3) c2] W fun e w' => ∃ u, e = .returned u ∧ BOwn W.heap.size w' u D ∧ Below W.heap.size W w') := fun W hW => rbytes_any _ D W (HO3.out.below hW) (by rw [HD.out, seal_len]; omega)
    have CM : Hid (∀ (u : Value) (W : World), BSl W u (D ++ [m]) → Calls Try.prog 22 #[u] W fun e w' => ∃ u, e = .returned (.tuple #[.int .i64 0, u, .int .i64 12]) ∧ BOwn W.heap.size w' u [] ∧ Below W.heap.size W w') := fun u W hW => by
      have := wopen_any _ _ W hW (by rw [HD.out, List.length_append, seal_len]; simp; omega)
      rw [HD.out, openT_more q L h3 m] at this
      exact this
    obtain ⟨g2, off2, _, rfl, _, _⟩ := HO3.out.at 0 (by omega)
    obtain ⟨_, hc22, hc23⟩ : ∃ x : Nat, nl + 3 ≤ c2 ∧ c2 ≤ maxLen := by obtain ⟨o, c, e, h1, h2⟩ := HO3.out.slice; simp only [Value.slice.injEq] at e; obtain ⟨_, e2, rfl⟩ := e; exact ⟨0, by omega, h2⟩
    have CE : Hid (∀ W, Below w3.heap.size w3 W → Calls Try.prog 22 #[.slice (some ⟨g2, off2, none⟩) (nl + 2) c2] W fun e w' => ∃ u, e = .returned (.tuple #[.int .i64 0, u, .int .i64 12]) ∧ BOwn W.heap.size w' u [] ∧ Below W.heap.size W w') := fun W hW => by
      have hp := (HO3.out.below hW).part g2 off2 0 (nl + 2) c2 rfl (by omega) (by omega) hc23
      rw [Nat.add_zero, List.drop_zero] at hp
      have := wopen_any _ _ W hp (by simp; omega)
      have e : nl + 2 = (sealB q L).length - 1 := by rw [seal_len, HN.out]; omega
      rw [HD.out, e, openT_less q L h3, ← e] at this
      exact this
    unfold maxLen at hc23
    have hz3 := HB3.out.size
    clear h2 h3 h4
    go_wp2_with (first
      | (go_at_call 12; refine (CS.out _ rfl).mono ?_; rintro e w4 ⟨rfl, rfl⟩))
    refine (CO.out _ (Below.refl _ _)).mono ?_
    rintro e w5 ⟨u, rfl, ho5, hb5⟩
    obtain ⟨o5, n5, c5, rfl⟩ := val_slice ho5.sl
    have HO5 : Hid (BSl w5 (.slice o5 n5 c5) L) := ho5.sl
    have HB5 : Hid (Below w4.heap.size w4 w5) := hb5
    clear ho5 hb5
    go_wp2_with fail
    refine (CB.out _ HB5.out).mono ?_
    rintro e w6 ⟨u, rfl, ho6, hb6⟩
    obtain ⟨o6, n6, c6, rfl⟩ := val_slice ho6.sl
    have HO6 : Hid (BOwn w5.heap.size w6 (.slice o6 n6 c6) D) := ho6
    have HB6 : Hid (Below w5.heap.size w5 w6) := hb6
    have hb56 := hb6.size
    clear ho6 hb6
    go_wp2_with (first
      | (at_builtin; refine of_stopW ?_))
    unfold StopW
    have HM : Hid (BSl (w6.alloc (.cells #[.int .u8 (m.toNat : Int)] 5)) (.slice (some ⟨w6.heap.size, 0, none⟩) 1 1) [m]) := (own_one w6 m).sl
    have HO7 : Hid (BOwn w5.heap.size (w6.alloc (.cells #[.int .u8 (m.toNat : Int)] 5)) (.slice o6 n6 c6) D) := HO6.out.below ((Below.refl _ _).alloc (Nat.le_refl _) _)
    have HB7 : Hid (Below w5.heap.size w5 (w6.alloc (.cells #[.int .u8 (m.toNat : Int)] 5))) := HB6.out.alloc hb56 _
    refine wl_appW rfl _ _ rfl w5.heap.size (.slice o6 n6 c6) _ D [m] rfl HO7.out rfl HM.out (by rw [HD.out, seal_len]; have := HQ.out; simp; omega) HB7.out.size ?_
    intro v8 w8 ho8 hgr _
    obtain ⟨o8, n8, c8, rfl⟩ := val_slice ho8.sl
    have HO8 : Hid (BSl w8 (.slice o8 n8 c8) (D ++ [m])) := ho8.sl
    have HB8 : Hid (Below w5.heap.size w5 w8) := HB7.out.grown hgr HB7.out.size fun q hq => (HO7.out.ge q hq).1
    simp only [Act.put, List.setIfInBounds_toArray, List.set_cons_succ, List.set_cons_zero]
    clear ho8 hgr HO7 HB7 HM
    go_wp2_with fail
    refine (CM.out _ _ HO8.out).mono ?_
    rintro e w9 ⟨u, rfl, ho9, hb9⟩
    obtain ⟨o9, n9, c9, rfl⟩ := val_slice ho9.sl
    obtain rfl : n9 = 0 := ho9.sl.len
    have HB9 : Hid (Below w5.heap.size w5 w9) := HB8.out.trans (hb9.mono HB8.out.size)
    clear ho9 hb9
    go_wp2_with fail
    refine (CE.out _ (HB5.out.trans (HB9.out.mono HB5.out.size))).mono ?_
    rintro e w10 ⟨u, rfl, ho10, hb10⟩
    obtain ⟨o10, n10, c10, rfl⟩ := val_slice ho10.sl
    obtain rfl : n10 = 0 := ho10.sl.len
    have HB10 : Hid (Below w5.heap.size w5 w10) := HB9.out.trans (hb10.mono HB9.out.size)
    have HBE : Hid (Below w.heap.size w w10) := (HB3.out.trans (HB5.out.mono HB3.out.size)).trans (HB10.out.mono (Nat.le_trans HB3.out.size HB5.out.size))
    have CS2 : Hid (∀ W, W = w10 → Calls Try.prog 12 #[.slice o5 n5 c5, .slice ov nl cv] W fun e w' => e = .returned (.bool true) ∧ w' = W) := fun W hW => by
      subst hW
      have := rsameB_any _ _ L L W (HO5.out.below HB10.out) (HL.out.below HBE.out)
      rw [beq_self_eq_true] at this
      exact this
    clear ho10 hb10
    go_wp2_with (first
      | (go_at_call 12; refine (CS2.out _ rfl).mono ?_; rintro e w11 ⟨rfl, rfl⟩))
    go_ret
    exact ⟨rfl, HBE.out⟩
theorem lawWSeals_nat (k : Int) (v : Value) (L : List UInt8) (x : Nat) (hx : (x : Int) ≤ 255) (w : World) (hL : BSl w v L) :
    Calls Try.prog 6 #[.int .i64 k, v, .int .u8 (x : Int)] w fun e w' => e = .returned (.bool true) ∧ Below w.heap.size w w' := by
  have e : ((UInt8.ofNat x).toNat : Int) = (x : Int) := by rw [UInt8.toNat_ofNat']; omega
  have := lawWSeals_any k v L (UInt8.ofNat x) w hL
  rw [e] at this
  exact this
end Go.Proofs.Ytfbphblodankmaa
