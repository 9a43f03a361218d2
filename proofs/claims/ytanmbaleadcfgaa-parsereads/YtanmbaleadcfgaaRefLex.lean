import Derived.Test.YtanmbaleadcfgaaLexTok
namespace Go.Proofs.Ytanmbaleadcfgaa
open Go Go.RowKit

/-- What a byte belongs to. -/
def kindN (x : Nat) : Int :=
  if x = 9 ∨ x = 13 ∨ x = 32 then 0 else if 97 ≤ x ∧ x ≤ 122 then 1 else if 48 ≤ x ∧ x ≤ 57 then 2 else if x = 46 then 3 else if x = 47 then 4 else if x = 45 then 5 else if x = 10 then 7 else if x = 35 then 9 else -1
def kindR (c : UInt8) : Int := kindN c.toNat

set_option maxHeartbeats 1000000 in
theorem kind_any (c : UInt8) (w : World) : Calls Try.prog 22 #[.int .u8 (c.toNat : Int)] w fun e w' => e = .returned (.int .i64 (kindR c)) ∧ w' = w := by
  unfold kindR
  obtain ⟨x, hx⟩ : ∃ x, x = c.toNat := ⟨_, rfl⟩
  have hlt : x < 256 := by rw [hx]; exact c.toNat_lt
  rw [← hx]
  clear hx
  by_cases hs : x = 9 ∨ x = 13 ∨ x = 32 ∨ x = 46 ∨ x = 47 ∨ x = 45 ∨ x = 10 ∨ x = 35
  · rcases hs with rfl | rfl | rfl | rfl | rfl | rfl | rfl | rfl
    all_goals
      go_enter Try.func22, Try.ntmps22
      go_wp2_with fail
      go_ret
      exact ⟨rfl, rfl⟩
  · have d9 : ((x : Int) == 9) = false := by simp; omega
    have d13 : ((x : Int) == 13) = false := by simp; omega
    have d32 : ((x : Int) == 32) = false := by simp; omega
    have d46 : ((x : Int) == 46) = false := by simp; omega
    have d47 : ((x : Int) == 47) = false := by simp; omega
    have d45 : ((x : Int) == 45) = false := by simp; omega
    have d10 : ((x : Int) == 10) = false := by simp; omega
    have d35 : ((x : Int) == 35) = false := by simp; omega
    have HK : Hid (kindN x = if 97 ≤ x ∧ x ≤ 122 then 1 else if 48 ≤ x ∧ x ≤ 57 then 2 else -1) := by
      show _ = _
      unfold kindN
      rw [if_neg (by omega)]
      split
      · rfl
      · split
        · rfl
        · rw [if_neg (by omega), if_neg (by omega), if_neg (by omega), if_neg (by omega), if_neg (by omega)]
    clear hs
    by_cases h1 : x < 48
    · have h2 : ¬ 97 ≤ x := by omega
      have h3 : ¬ 48 ≤ x := by omega
      have HK2 : Hid (kindN x = -1) := by show _ = _; rw [HK.out, if_neg (by omega), if_neg (by omega)]
      clear HK
      go_enter Try.func22, Try.ntmps22
      go_wp2_with fail
      go_ret
      exact ⟨by rw [HK2.out]; rfl, rfl⟩
    by_cases h2 : x ≤ 57
    · have h3 : ¬ 97 ≤ x := by omega
      have h4 : 48 ≤ x := by omega
      have HK2 : Hid (kindN x = 2) := by show _ = _; rw [HK.out, if_neg (by omega), if_pos (by omega)]
      clear HK
      go_enter Try.func22, Try.ntmps22
      go_wp2_with fail
      go_ret
      exact ⟨by rw [HK2.out]; rfl, rfl⟩
    by_cases h3 : x < 97
    · have h4 : ¬ 97 ≤ x := by omega
      have h5 : 48 ≤ x := by omega
      have HK2 : Hid (kindN x = -1) := by show _ = _; rw [HK.out, if_neg (by omega), if_neg (by omega)]
      clear HK
      go_enter Try.func22, Try.ntmps22
      go_wp2_with fail
      go_ret
      exact ⟨by rw [HK2.out]; rfl, rfl⟩
    by_cases h4 : x ≤ 122
    · have h5 : 97 ≤ x := by omega
      have HK2 : Hid (kindN x = 1) := by show _ = _; rw [HK.out, if_pos (by omega)]
      clear HK
      go_enter Try.func22, Try.ntmps22
      go_wp2_with fail
      go_ret
      exact ⟨by rw [HK2.out]; rfl, rfl⟩
    · have h5 : 97 ≤ x := by omega
      have h6 : 48 ≤ x := by omega
      have HK2 : Hid (kindN x = -1) := by show _ = _; rw [HK.out, if_neg (by omega), if_neg (by omega)]
      clear HK
      go_enter Try.func22, Try.ntmps22
      go_wp2_with fail
      go_ret
      exact ⟨by rw [HK2.out]; rfl, rfl⟩

theorem kind_let (c : UInt8) : (kindR c == 1) = isLet c := by
  have := all256 (fun c => (kindR c == 1) == isLet c) (by kernel_rfl) c
  simpa using this
theorem kind_dig (c : UInt8) : (kindR c == 2) = isDig c := by
  have := all256 (fun c => (kindR c == 2) == isDig c) (by kernel_rfl) c
  simpa using this

/-- Digits as a number, or none. -/
def numV (D : List UInt8) : Int := match numOf D with | some n => (n : Nat) | none => -1

set_option maxHeartbeats 1000000 in
theorem value_any (s : ByteArray) (hs : s.size ≤ maxLen) (h0 : 0 < s.size) (hD : ∀ c ∈ s.data.toList, isDig c = true) (w : World) :
    Calls Try.prog 23 #[.string s] w fun e w' => e = .returned (.int .i64 (numV s.data.toList)) ∧ w' = w := by
  unfold maxLen at hs
  have hlen : s.data.toList.length = s.size := (Lib.size_eq s).symm
  obtain ⟨S, hS⟩ : ∃ S, S = s.data.toList := ⟨_, rfl⟩
  have hby : ∀ k (hk : k < s.size), ∃ b : Nat, 48 ≤ b ∧ b ≤ 57 ∧ s[k].toNat = b ∧ val (S.take (k + 1)) = val (S.take k) * 10 + (b - 48) := fun k hk => by
    have hm : s[k] ∈ s.data.toList := List.mem_of_getElem? (byte_q s k hk)
    have := hD _ hm
    unfold isDig at this
    simp only [Bool.and_eq_true, decide_eq_true_eq] at this
    refine ⟨_, this.1, this.2, rfl, ?_⟩
    have hk' : k < S.length := by rw [hS, hlen]; exact hk
    rw [val_take S k hk']
    have e : S[k] = s[k] := by
      have := byte_q s k hk
      rw [← hS, List.getElem?_eq_getElem hk'] at this
      simpa using this
    rw [e]
  have HBY : Hid (∀ k (hk : k < s.size), ∃ b : Nat, 48 ≤ b ∧ b ≤ 57 ∧ s[k].toNat = b ∧ val (S.take (k + 1)) = val (S.take k) * 10 + (b - 48)) := hby
  have hh : S.head? = some s[0] := by
    have := byte_q s 0 h0
    rw [← hS] at this
    rw [List.head?_eq_getElem?]; exact this
  have hz : ((s[0].toNat : Int) == 48) = (S.head? == some 48) := by
    rw [hh]; exact byte_beq s[0] 48
  have hix0 : ∀ W, (Instr.index 9 (.string s) (.int .i64 0)).run Try.prog W = .ok (.int .u8 (s[0].toNat : Int)) W := fun W => by
    simp [go_sem, Try.underlying9, h0]
  have HL : Hid (S.length = s.size) := by rw [hS]; exact hlen
  rw [← hS]
  obtain ⟨R, hR⟩ : ∃ R, R = numV S := ⟨_, rfl⟩
  have HR : Hid (R = if decide (4294967295 < val S) || (decide (1 < s.size) && S.head? == some 48) then (-1 : Int) else ((val S : Nat) : Int)) := by
    show R = _
    rw [hR, ← HL.out]
    unfold numV numOf
    split <;> rename_i h1
    · split at h1
      · cases h1
      · obtain rfl := Option.some.inj h1; rw [if_neg (by assumption)]
    · split at h1
      · rw [if_pos (by assumption)]
      · cases h1
  rw [← hR]
  obtain ⟨z0, hz0⟩ : ∃ z0 : Int, z0 = (s[0].toNat : Int) := ⟨_, rfl⟩
  rw [← hz0] at hz hix0
  clear hR hS hD hlen hby hh hz0
  go_enter Try.func23, Try.ntmps23
  go_wp2_with fail
  go_loop [3, 4] (fun v i => ∃ k : Nat, k ≤ s.size ∧ i = .int .i64 (k : Int) ∧ v = .int .i64 ((val (S.take k) : Nat) : Int) ∧ val (S.take k) ≤ 4294967295) (fun _ i => s.size - (intOf i).toNat)
  case atStart => exact ⟨0, Nat.zero_le _, rfl, rfl, Nat.zero_le _⟩
  case round =>
    obtain ⟨k, hk, rfl, rfl, hv⟩ := hrel
    by_cases hlt : k < s.size
    · obtain ⟨b, hb1, hb2, hb3, hb4⟩ := HBY.out k hlt
      have hix : ∀ W, (Instr.index 9 (.string s) (.int .i64 (k : Int))).run Try.prog W = .ok (.int .u8 (b : Int)) W := fun W => by
        rw [← hb3]
        simp [go_sem, Try.underlying9, hlt]
      obtain ⟨x, hx⟩ : ∃ x, x = val (S.take k) := ⟨_, rfl⟩
      rw [← hx] at hv hb4 ⊢
      obtain ⟨y, hy⟩ : ∃ y, y = x * 10 + (b - 48) := ⟨_, rfl⟩
      have hyz : (x : Int) * 10 + (b : Int) - 48 = (y : Int) := by omega
      have HB4 : Hid (val (S.take (k + 1)) = y) := by show _ = _; rw [hb4, hy]
      have hlt' : (k : Int) < (s.size : Int) := by omega
      have hy2 : y ≤ 100000000000 := by omega
      clear hb4 hb3 hx hy hz
      by_cases hbig : 4294967295 < y
      · have HRZ : Hid (R = -1) := by
          show _ = _
          rw [HR.out, if_pos]
          have := val_take_le S (k + 1)
          rw [HB4.out] at this
          rw [decide_eq_true (by omega : 4294967295 < val S)]; rfl
        go_wp2_with fail
        go_ret
        exact ⟨by rw [HRZ.out]; rfl, rfl⟩
      · go_wp2_with fail
        go_round
        case rel => exact ⟨k + 1, by omega, by go_num, by rw [HB4.out], by rw [HB4.out]; omega⟩
        case measure => simp [intOf]; omega
    · have hk' : k = s.size := by omega
      have hlt' : (s.size : Int) ≤ (k : Int) := by omega
      have e : S.take k = S := by rw [List.take_of_length_le]; rw [HL.out]; omega
      rw [e] at hv ⊢
      have HRZ : Hid (R = if (decide (1 < s.size) && S.head? == some 48) then (-1 : Int) else ((val S : Nat) : Int)) := by
        show _ = _
        rw [HR.out, decide_eq_false (by omega : ¬ 4294967295 < val S), Bool.false_or]
      clear hk' hlt e HR
      by_cases h1 : 1 < (s.size : Int)
      · by_cases hzz : (S.head? == some 48) = true
        · have HR2 : Hid (R = -1) := by
            show _ = _
            rw [HRZ.out, hzz, decide_eq_true (by omega : 1 < s.size)]; simp
          rw [hzz] at hz
          clear HRZ hzz
          go_wp2_with fail
          go_ret
          exact ⟨by rw [HR2.out]; rfl, rfl⟩
        · have hzz' : (S.head? == some 48) = false := by simpa using hzz
          have HR2 : Hid (R = ((val S : Nat) : Int)) := by
            show _ = _
            rw [HRZ.out, hzz']; simp
          rw [hzz'] at hz
          clear HRZ hzz hzz'
          go_wp2_with fail
          go_ret
          exact ⟨by rw [HR2.out]; rfl, rfl⟩
      · have HR2 : Hid (R = ((val S : Nat) : Int)) := by
          show _ = _
          rw [HRZ.out, decide_eq_false (by omega : ¬ 1 < s.size)]; simp
        clear HRZ hz
        go_wp2_with fail
        go_ret
        exact ⟨by rw [HR2.out]; rfl, rfl⟩
end Go.Proofs.Ytanmbaleadcfgaa
