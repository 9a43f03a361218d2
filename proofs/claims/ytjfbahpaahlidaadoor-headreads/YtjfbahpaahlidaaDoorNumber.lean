import Derived.Test.YtjfbahpaahlidaaDoorLawTexts
namespace Go.Proofs.YtjfbahpaahlidaaDoor
open Go Go.RowKit

/-- At most f digits from place a on: the number, n ahead of them, and where they end. -/
def numGo (s : List UInt8) : Nat → Int → Nat → Int × Nat
  | 0, n, a => (n, a)
  | f + 1, n, a =>
    match s[a]? with
    | some b => if 48 ≤ b.toNat ∧ b.toNat ≤ 57 then numGo s f (n * 10 + ((b.toNat : Int) - 48)) (a + 1) else (n, a)
    | none => (n, a)

set_option maxHeartbeats 2000000 in
theorem number_any (s : ByteArray) (a : Nat) (w : World) (hs : s.size ≤ 9223372036854775807) (ha : a ≤ 1000) :
    Calls Tryd.prog 38 #[.string s, .int .i64 (a : Int)] w fun e w' => e = .returned (.tuple #[.int .u32 (numGo s.data.toList 5 0 a).1, .int .i64 ((numGo s.data.toList 5 0 a).2 : Int)]) ∧ w' = w := by
  have HS : Hid (s.size ≤ 9223372036854775807) := hs
  clear hs
  obtain ⟨R, hR⟩ : ∃ R, R = numGo s.data.toList 5 0 a := ⟨_, rfl⟩
  rw [← hR]
  have HR : Hid (R = numGo s.data.toList 5 0 a) := hR
  clear hR
  go_enter Tryd.func38, Tryd.ntmps38
  go_wp2
  go_loop [1, 6, 7] (fun x n k => ∃ (j : Nat) (m : Int), j ≤ 5 ∧ 0 ≤ m ∧ m < 10 ^ j ∧ x = .int .i64 ((a + j : Nat) : Int) ∧ n = .int .u32 m ∧ k = .int .i64 (j : Int) ∧ Hid (R = numGo s.data.toList (5 - j) m (a + j))) (fun _ _ k => 5 - (intOf k).toNat)
  case atStart => exact ⟨0, 0, by decide, by decide, by decide, rfl, rfl, rfl, HR⟩
  case round =>
    obtain ⟨j, m, hj, hm0, hm1, rfl, rfl, rfl, HRR⟩ := hrel
    have hm2 : m ≤ 99999 := by
      have : (10 : Int) ^ j ≤ 10 ^ 5 := by
        rcases (show j = 0 ∨ j = 1 ∨ j = 2 ∨ j = 3 ∨ j = 4 ∨ j = 5 by omega) with e | e | e | e | e | e <;> subst e <;> decide
      have h5 : (10 : Int) ^ 5 = 100000 := by decide
      omega
    obtain ⟨q, hq⟩ : ∃ q : Nat, q = a + j := ⟨_, rfl⟩
    rw [← hq] at HRR ⊢
    have hq2 : q ≤ 1005 := by omega
    have HQ : Hid (q = a + j) := hq
    clear hq
    by_cases hlt : j < 5
    · by_cases hin : q < s.size
      · obtain ⟨b, hb⟩ : ∃ b : Nat, b = (s[q]).toNat := ⟨_, rfl⟩
        have hb256 : b < 256 := by rw [hb]; exact (s[q]).toNat_lt
        have hix : ∀ W, (Instr.index 9 (.string s) (.int .i64 (q : Int))).run Tryd.prog W = .ok (.int .u8 (b : Int)) W := fun W => by
          rw [hb]
          simp [go_sem, Tryd.underlying9, hin]
        have hR0 : R = if 48 ≤ b ∧ b ≤ 57 then numGo s.data.toList (5 - (j + 1)) (m * 10 + ((b : Int) - 48)) (q + 1) else (m, q) := by
          rw [HRR.out, show 5 - j = (5 - (j + 1)) + 1 by omega, numGo]
          have e : s.data.toList[q]? = some s[q] := by
            rw [List.getElem?_eq_getElem (by simpa using hin)]; rfl
          rw [e, hb]
        have HR0 : Hid (R = if 48 ≤ b ∧ b ≤ 57 then numGo s.data.toList (5 - (j + 1)) (m * 10 + ((b : Int) - 48)) (q + 1) else (m, q)) := hR0
        have hin' : (q : Int) < (s.size : Int) := by omega
        clear hR0 HRR hb hin HR
        by_cases h48 : 48 ≤ b
        · by_cases h57 : b ≤ 57
          · have HR2 : Hid (R = numGo s.data.toList (5 - (j + 1)) (m * 10 + ((b : Int) - 48)) (q + 1)) := by
              show R = _
              rw [HR0.out, if_pos ⟨h48, h57⟩]
            have hpow : m * 10 + ((b : Int) - 48) < 10 ^ (j + 1) := by rw [Int.pow_succ]; omega
            have HPW : Hid (m * 10 + ((b : Int) - 48) < 10 ^ (j + 1)) := hpow
            have hj' : (j : Int) < 5 := by omega
            clear HR0 hpow hm1
            go_wp2_with fail
            go_round
            case rel =>
              refine ⟨j + 1, m * 10 + ((b : Int) - 48), by omega, by omega, HPW.out, ?_, rfl, by go_num, ?_⟩
              · rw [show a + (j + 1) = q + 1 by have := HQ.out; omega]; go_num
              · rw [show a + (j + 1) = q + 1 by have := HQ.out; omega]; exact HR2
            case measure => simp [intOf]; omega
          · have HR2 : Hid (R = (m, q)) := by
              show R = _
              rw [HR0.out, if_neg (by omega)]
            have hj' : (j : Int) < 5 := by omega
            clear HR0 hm1
            go_wp2_with fail
            go_ret2
            exact ⟨by rw [HR2.out]; rfl, rfl⟩
        · have HR2 : Hid (R = (m, q)) := by
            show R = _
            rw [HR0.out, if_neg (by omega)]
          have hj' : (j : Int) < 5 := by omega
          clear HR0 hm1
          go_wp2_with fail
          go_ret2
          exact ⟨by rw [HR2.out]; rfl, rfl⟩
      · have HR2 : Hid (R = (m, q)) := by
          show R = _
          rw [HRR.out, show 5 - j = (5 - (j + 1)) + 1 by omega, numGo]
          have e : s.data.toList[q]? = none := List.getElem?_eq_none (by
            have : s.data.toList.length = s.size := by rw [Array.length_toList]; rfl
            omega)
          rw [e]
        have hj' : (j : Int) < 5 := by omega
        have hin' : (s.size : Int) ≤ (q : Int) := by omega
        clear HRR hm1 HR hin
        go_wp2_with fail
        go_ret2
        exact ⟨by rw [HR2.out]; rfl, rfl⟩
    · have HR2 : Hid (R = (m, q)) := by
        show R = _
        rw [HRR.out, show 5 - j = 0 by omega, numGo]
      have hj' : (5 : Int) ≤ (j : Int) := by omega
      clear HRR hm1 HR
      go_wp2_with fail
      go_ret2
      exact ⟨by rw [HR2.out]; rfl, rfl⟩
end Go.Proofs.YtjfbahpaahlidaaDoor
