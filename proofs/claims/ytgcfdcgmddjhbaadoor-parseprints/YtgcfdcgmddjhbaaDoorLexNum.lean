import Derived.Test.YtgcfdcgmddjhbaaDoorLexStr
namespace Go.Proofs.YtgcfdcgmddjhbaaDoor
open Go Go.RowKit
set_option maxRecDepth 20000

/-- A number and what is wrong with it. -/
def numR (D : List UInt8) : Nat × Nat := match numOf D with | some n => (n, 0) | none => (0, 7)
theorem val_app (D : List UInt8) (c : UInt8) : val (D ++ [c]) = val D * 10 + (c.toNat - 48) := by unfold val; rw [List.foldl_append]; rfl
theorem val_grow : ∀ (E : List UInt8) (n : Nat), n ≤ E.foldl (fun n c => n * 10 + (c.toNat - 48)) n
  | [], n => Nat.le_refl n
  | c :: E, n => by
    rw [List.foldl_cons]
    exact Nat.le_trans (by omega) (val_grow E _)
theorem val_mono (D E : List UInt8) : val D ≤ val (D ++ E) := by
  unfold val
  rw [List.foldl_append]
  exact val_grow E _
theorem val_take (D : List UInt8) (k : Nat) (hk : k < D.length) : val (D.take (k + 1)) = val (D.take k) * 10 + (D[k].toNat - 48) := by
  rw [List.take_succ_eq_append_getElem hk, val_app]
theorem val_take_le (D : List UInt8) (k : Nat) : val (D.take k) ≤ val D := by
  have := val_mono (D.take k) (D.drop k)
  rwa [List.take_append_drop] at this

set_option maxHeartbeats 1000000 in
theorem number_any (s : ByteArray) (hs : s.size ≤ maxLen) (h0 : 0 < s.size) (hD : ∀ c ∈ s.data.toList, isDig c = true) (w : World) :
    Calls Tryd.prog 25 #[.string s] w fun e w' => e = .returned (.tuple #[.int .i64 ((numR s.data.toList).1 : Nat), .int .i64 ((numR s.data.toList).2 : Nat)]) ∧ w' = w := by
  unfold maxLen at hs
  have hlen : s.data.toList.length = s.size := (Lib.size_eq s).symm
  obtain ⟨S, hS⟩ : ∃ S, S = s.data.toList := ⟨_, rfl⟩
  have hby : ∀ k (hk : k < s.size), ∃ b : Nat, 48 ≤ b ∧ b ≤ 57 ∧ s[k].toNat = b ∧ val (S.take (k + 1)) = val (S.take k) * 10 + (b - 48) := fun k hk => by
    have hm : s[k] ∈ s.data.toList := List.mem_of_getElem? (byte_q s k hk)
    have := hD _ hm
    unfold isDig at this
    simp only [Bool.and_eq_true, decide_eq_true_eq] at this
    refine ⟨_, this.1, this.2, rfl, ?_⟩
    have hk' : k < S.length := by rw [hS, hlen]; exact hk
    rw [val_take S k hk']
    have e : S[k] = s[k] := by
      have := byte_q s k hk
      rw [← hS, List.getElem?_eq_getElem hk'] at this
      simpa using this
    rw [e]
  have HBY : Hid (∀ k (hk : k < s.size), ∃ b : Nat, 48 ≤ b ∧ b ≤ 57 ∧ s[k].toNat = b ∧ val (S.take (k + 1)) = val (S.take k) * 10 + (b - 48)) := hby
  have hh : S.head? = some s[0] := by
    have := byte_q s 0 h0
    rw [← hS] at this
    rw [List.head?_eq_getElem?]; exact this
  have hz : ((s[0].toNat : Int) == 48) = (S.head? == some 48) := by
    rw [hh]; exact byte_beq s[0] 48
  have hix0 : ∀ W, (Instr.index 9 (.string s) (.int .i64 0)).run Tryd.prog W = .ok (.int .u8 (s[0].toNat : Int)) W := fun W => by
    simp [go_sem, Tryd.underlying9, h0]
  have HL : Hid (S.length = s.size) := by rw [hS]; exact hlen
  rw [← hS]
  obtain ⟨R, hR⟩ : ∃ R, R = numR S := ⟨_, rfl⟩
  have HR : Hid (R = if decide (4294967295 < val S) || (decide (1 < s.size) && S.head? == some 48) then (0, 7) else (val S, 0)) := by
    show R = _
    rw [hR, ← HL.out]
    unfold numR numOf
    split <;> rename_i h1
    · split at h1
      · cases h1
      · obtain rfl := Option.some.inj h1; rw [if_neg (by assumption)]
    · split at h1
      · rw [if_pos (by assumption)]
      · cases h1
  rw [← hR]
  obtain ⟨z0, hz0⟩ : ∃ z0 : Int, z0 = (s[0].toNat : Int) := ⟨_, rfl⟩
  rw [← hz0] at hz hix0
  clear hR hS hD hlen hby hh hz0
  have LOOP : Hid (Hid (R = if decide (4294967295 < val S) then (0, 7) else (val S, 0)) → (1 < (s.size : Int) → (z0 == 48) = false) → Calls Tryd.prog 25 #[.string s] w fun e w' => e = .returned (.tuple #[.int .i64 (R.1 : Nat), .int .i64 (R.2 : Nat)]) ∧ w' = w) := by
    intro HR2 hg
    clear HR hz
    by_cases h1 : 1 < (s.size : Int)
    · have hg1 := hg h1
      clear hg
      go_enter Tryd.func25, Tryd.ntmps25
      go_wp2_with fail
      go_loop [4, 16] (fun v i => ∃ k : Nat, k ≤ s.size ∧ i = .int .i64 (k : Int) ∧ v = .int .i64 ((val (S.take k) : Nat) : Int) ∧ val (S.take k) ≤ 4294967295) (fun _ i => s.size - (intOf i).toNat)
      case atStart => exact ⟨0, Nat.zero_le _, rfl, rfl, Nat.zero_le _⟩
      case round =>
        obtain ⟨k, hk, rfl, rfl, hv⟩ := hrel
        by_cases hlt : k < s.size
        · obtain ⟨b, hb1, hb2, hb3, hb4⟩ := HBY.out k hlt
          have hix : ∀ W, (Instr.index 9 (.string s) (.int .i64 (k : Int))).run Tryd.prog W = .ok (.int .u8 (b : Int)) W := fun W => by
            rw [← hb3]
            simp [go_sem, Tryd.underlying9, hlt]
          obtain ⟨x, hx⟩ : ∃ x, x = val (S.take k) := ⟨_, rfl⟩
          rw [← hx] at hv hb4 ⊢
          obtain ⟨y, hy⟩ : ∃ y, y = x * 10 + (b - 48) := ⟨_, rfl⟩
          have hyz : (x : Int) * 10 + ((b : Int) - 48) = (y : Int) := by omega
          have HB4 : Hid (val (S.take (k + 1)) = y) := by show _ = _; rw [hb4, hy]
          have hlt' : (k : Int) < (s.size : Int) := by omega
          have hy2 : y ≤ 100000000000 := by omega
          clear hb4 hb3 hx hy
          by_cases hbig : 4294967295 < y
          · have HRZ : Hid (R = (0, 7)) := by
              show _ = _
              rw [HR2.out, if_pos]
              have := val_take_le S (k + 1)
              rw [HB4.out] at this
              exact decide_eq_true (by omega)
            go_wp2_with fail
            go_ret2
            exact ⟨by rw [HRZ.out]; rfl, rfl⟩
          · go_wp2_with fail
            go_round
            case rel => exact ⟨k + 1, by omega, by go_num, by rw [HB4.out], by rw [HB4.out]; omega⟩
            case measure => simp [intOf]; omega
        · have hk' : k = s.size := by omega
          have hlt' : (s.size : Int) ≤ (k : Int) := by omega
          have HRZ : Hid (R = (val (S.take k), 0)) := by
            show _ = _
            have e : S.take k = S := by rw [List.take_of_length_le]; rw [HL.out]; omega
            rw [e] at hv ⊢
            rw [HR2.out, if_neg (by simpa using hv)]
          clear hk' hlt
          go_wp2_with fail
          go_ret2
          exact ⟨by rw [HRZ.out]; rfl, rfl⟩
    · clear hg
      go_enter Tryd.func25, Tryd.ntmps25
      go_wp2_with fail
      go_loop [4, 16] (fun v i => ∃ k : Nat, k ≤ s.size ∧ i = .int .i64 (k : Int) ∧ v = .int .i64 ((val (S.take k) : Nat) : Int) ∧ val (S.take k) ≤ 4294967295) (fun _ i => s.size - (intOf i).toNat)
      case atStart => exact ⟨0, Nat.zero_le _, rfl, rfl, Nat.zero_le _⟩
      case round =>
        obtain ⟨k, hk, rfl, rfl, hv⟩ := hrel
        by_cases hlt : k < s.size
        · obtain ⟨b, hb1, hb2, hb3, hb4⟩ := HBY.out k hlt
          have hix : ∀ W, (Instr.index 9 (.string s) (.int .i64 (k : Int))).run Tryd.prog W = .ok (.int .u8 (b : Int)) W := fun W => by
            rw [← hb3]
            simp [go_sem, Tryd.underlying9, hlt]
          obtain ⟨x, hx⟩ : ∃ x, x = val (S.take k) := ⟨_, rfl⟩
          rw [← hx] at hv hb4 ⊢
          obtain ⟨y, hy⟩ : ∃ y, y = x * 10 + (b - 48) := ⟨_, rfl⟩
          have hyz : (x : Int) * 10 + ((b : Int) - 48) = (y : Int) := by omega
          have HB4 : Hid (val (S.take (k + 1)) = y) := by show _ = _; rw [hb4, hy]
          have hlt' : (k : Int) < (s.size : Int) := by omega
          have hy2 : y ≤ 100000000000 := by omega
          clear hb4 hb3 hx hy
          by_cases hbig : 4294967295 < y
          · have HRZ : Hid (R = (0, 7)) := by
              show _ = _
              rw [HR2.out, if_pos]
              have := val_take_le S (k + 1)
              rw [HB4.out] at this
              exact decide_eq_true (by omega)
            go_wp2_with fail
            go_ret2
            exact ⟨by rw [HRZ.out]; rfl, rfl⟩
          · go_wp2_with fail
            go_round
            case rel => exact ⟨k + 1, by omega, by go_num, by rw [HB4.out], by rw [HB4.out]; omega⟩
            case measure => simp [intOf]; omega
        · have hk' : k = s.size := by omega
          have hlt' : (s.size : Int) ≤ (k : Int) := by omega
          have HRZ : Hid (R = (val (S.take k), 0)) := by
            show _ = _
            have e : S.take k = S := by rw [List.take_of_length_le]; rw [HL.out]; omega
            rw [e] at hv ⊢
            rw [HR2.out, if_neg (by simpa using hv)]
          clear hk' hlt
          go_wp2_with fail
          go_ret2
          exact ⟨by rw [HRZ.out]; rfl, rfl⟩
  by_cases h1 : 1 < (s.size : Int)
  · by_cases hzz : (S.head? == some 48) = true
    · have hR2 : R = (0, 7) := by
        rw [HR.out, if_pos]
        rw [hzz, decide_eq_true (by omega : 1 < s.size)]; simp
      subst hR2
      rw [hzz] at hz
      clear HR LOOP
      go_enter Tryd.func25, Tryd.ntmps25
      go_wp2_with fail
      go_ret2
      exact ⟨rfl, rfl⟩
    · have hzz' : (S.head? == some 48) = false := by simpa using hzz
      refine LOOP.out ?_ fun _ => by rw [hz]; exact hzz'
      show R = _
      rw [HR.out, hzz']; simp
  · refine LOOP.out ?_ fun h => absurd h h1
    show R = _
    rw [HR.out, decide_eq_false (by omega : ¬ 1 < s.size)]; simp
end Go.Proofs.YtgcfdcgmddjhbaaDoor
