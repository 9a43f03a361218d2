import Derived.Test.YtfbphblodankmaaWAwake
namespace Go.Proofs.Ytfbphblodankmaa
open Go Go.RowKit
set_option maxRecDepth 20000

theorem putT_cases (L : List UInt8) (n : Nat) (s : Int) : ((putT L n s).1 = [] ∧ ((putT L n s).2 == 0) = false) ∨ (∃ m : Nat, s = m ∧ canB s = true ∧ n < 256 ^ m ∧ putT L n s = (L ++ beB m n, 0)) := by
  unfold putT
  by_cases hc : canB s = true
  · rw [if_pos hc]
    have hs := (canB_iff s).1 hc
    obtain ⟨m, rfl⟩ : ∃ m : Nat, s = m := ⟨s.toNat, by omega⟩
    by_cases hr : n < 256 ^ m
    · rw [if_pos (by simpa using hr)]
      exact .inr ⟨m, rfl, hc, hr, by simp⟩
    · rw [if_neg (by simpa using hr)]
      exact .inl ⟨rfl, rfl⟩
  · rw [if_neg hc]
    exact .inl ⟨rfl, rfl⟩
theorem take_back (L : List UInt8) (n m : Nat) (hc : canB m = true) (h : n < 256 ^ m) : takeT (L ++ beB m n) L.length m = (n, 0) := by
  unfold takeT
  rw [if_pos ⟨hc, by omega⟩, if_pos (by rw [List.length_append, beB_len]; omega)]
  have e : ((L ++ beB m n).drop ((L.length : Int)).toNat).take ((m : Int)).toNat = beB m n := by
    rw [Int.toNat_natCast, Int.toNat_natCast, List.drop_left, List.take_of_length_le (by rw [beB_len]; exact Nat.le_refl _)]
  rw [e, take_put m n h]

set_option maxHeartbeats 4000000 in
theorem lawWPuts_any (v : Value) (L : List UInt8) (n : Nat) (s : Int) (w : World) (hL : BSl w v L) (hl : L.length ≤ 140737488351232) (hn : n < 18446744073709551616) :
    Calls Try.prog 3 #[v, .int .u64 (n : Int), .int .i64 s] w fun e w' => e = .returned (.bool true) ∧ Below w.heap.size w w' := by
  have CA : Hid (∀ W, Calls Try.prog 9 #[] W fun e w' => e = .returned (.bool true) ∧ Below W.heap.size W w') := awake9_any
  have HL : Hid (BSl w v L) := hL
  obtain ⟨ov, cv, hv, hc1, hc2⟩ := hL.slice
  subst hv
  obtain ⟨nl, hnl⟩ : ∃ nl, nl = L.length := ⟨_, rfl⟩
  have HN : Hid (nl = L.length) := hnl
  rw [← hnl] at HL hc1 hL ⊢
  have hl' : nl ≤ 140737488351232 := by omega
  clear hnl
  obtain ⟨D, hD⟩ : ∃ D, D = (putT L n s).1 := ⟨_, rfl⟩
  obtain ⟨y, hy⟩ : ∃ y, y = (putT L n s).2 := ⟨_, rfl⟩
  have CP : Hid (∀ W, Below w.heap.size w W → Calls Try.prog 10 #[.slice ov nl cv, .int .u64 (n : Int), .int .i64 s] W fun e w' => ∃ u, e = .returned (.tuple #[u, .int .i64 y]) ∧ BOwn W.heap.size w' u D ∧ Below W.heap.size W w') := fun W hW => by
    rw [hD, hy]; exact put_any _ L n s W (HL.out.below hW) hl
  have CR : Hid (∀ W, Below w.heap.size w W → Calls Try.prog 11 #[.slice ov nl cv, .int .u64 (n : Int), .int .i64 s] W fun e w' => ∃ u, e = .returned (.tuple #[u, .int .i64 y]) ∧ BOwn W.heap.size w' u D ∧ Below W.heap.size W w') := fun W hW => by
    rw [hD, hy]; exact rput_any _ L n s W (HL.out.below hW) hl hn
  have HCA : Hid (((D = []) ∧ (y == 0) = false) ∨ (∃ m : Nat, s = m ∧ canB s = true ∧ n < 256 ^ m ∧ D = L ++ beB m n ∧ y = 0)) := by
    rw [hD, hy]
    rcases putT_cases L n s with h | ⟨m, h1, h2, h3, h4⟩
    · exact .inl h
    · exact .inr ⟨m, h1, h2, h3, by rw [h4], by rw [h4]⟩
  have CT : Hid (∀ (u : Value) (W : World) (m : Nat), s = m → canB s = true → n < 256 ^ m → BSl W u (L ++ beB m n) → Calls Try.prog 13 #[u, .int .i64 (nl : Int), .int .i64 s] W fun e w' => e = .returned (.tuple #[.int .u64 (n : Int), .int .i64 0]) ∧ w' = W) := fun u W m h1 h2 h3 h4 => by
    subst h1
    have := take_any u _ (nl : Int) m W h4 (by omega)
    rw [HN.out, take_back L n m h2 h3, ← HN.out] at this
    exact this
  clear hl hL hD hy
  go_enter Try.func3, Try.ntmps3
  go_wp2_with fail
  refine (CA.out _).mono ?_
  rintro e w1 ⟨rfl, hb⟩
  have HB : Hid (Below w.heap.size w w1) := hb
  clear hb
  go_wp2_with fail
  refine (CP.out _ HB.out).mono ?_
  rintro e w2 ⟨u, rfl, ho2, hb2⟩
  obtain ⟨o2, n2, c2, rfl⟩ := val_slice ho2.sl
  have HB2 : Hid (Below w.heap.size w w2) := HB.out.trans (hb2.mono HB.out.size)
  have HO2 : Hid (BSl w2 (.slice o2 n2 c2) D) := ho2.sl
  clear ho2 hb2
  go_wp2_with fail
  refine (CR.out _ HB2.out).mono ?_
  rintro e w3 ⟨u, rfl, ho3, hb3⟩
  obtain ⟨o3, n3, c3, rfl⟩ := val_slice ho3.sl
  have HB3 : Hid (Below w.heap.size w w3) := HB2.out.trans (hb3.mono HB2.out.size)
  have HO3 : Hid (BSl w3 (.slice o2 n2 c2) D) := HO2.out.below hb3
  have CS : Hid (∀ W, W = w3 → Calls Try.prog 12 #[.slice o2 n2 c2, .slice o3 n3 c3] W fun e w' => e = .returned (.bool true) ∧ w' = W) := fun W hW => by
    subst hW
    have := rsameB_any _ _ D D W HO3.out ho3.sl
    rw [beq_self_eq_true] at this
    exact this
  clear ho3 hb3
  rcases HCA.out with ⟨h1, h2⟩ | ⟨m, h1, h2, h3, h4, hy⟩
  · obtain rfl : n2 = 0 := by rw [HO3.out.len, h1]; rfl
    clear h1
    go_wp2_with (first
      | (go_at_call 12; refine (CS.out _ rfl).mono ?_; rintro e w4 ⟨rfl, rfl⟩))
    go_ret
    exact ⟨rfl, HB3.out⟩
  · subst hy
    have CT2 : Hid (∀ W, W = w3 → Calls Try.prog 13 #[.slice o2 n2 c2, .int .i64 (nl : Int), .int .i64 s] W fun e w' => e = .returned (.tuple #[.int .u64 (n : Int), .int .i64 0]) ∧ w' = W) := fun W hW => by
      subst hW
      refine CT.out _ W m h1 h2 h3 ?_
      have := HO3.out
      rw [h4] at this
      exact this
    clear h1 h2 h3 h4
    go_wp2_with (first
      | (go_at_call 12; refine (CS.out _ rfl).mono ?_; rintro e w4 ⟨rfl, rfl⟩)
      | (go_at_call 13; refine (CT2.out _ rfl).mono ?_; rintro e w5 ⟨rfl, rfl⟩))
    go_ret
    exact ⟨rfl, HB3.out⟩
end Go.Proofs.Ytfbphblodankmaa
