import Derived.Test.YtgcfdcgmddjhbaaDoorLexStr
namespace Go.Proofs.YtgcfdcgmddjhbaaDoor
open Go Go.RowKit
set_option maxRecDepth 20000

theorem str_beq (s : ByteArray) (x : List UInt8) : (s.toList == x) = (s.data.toList == x) := by rw [ByteArray.toList_eq]

/-- The sign with which a text begins. -/
def signR (c : UInt8) (r : List UInt8) : Nat × Nat :=
  if c == 46 then (3, 1) else if c == 47 then (4, 1) else if c == 45 then (if r.head? == some 62 then (6, 2) else (5, 1)) else if c == 10 then (7, 1) else (0, 0)

set_option maxHeartbeats 1000000 in
theorem arrow_any (s : ByteArray) (hs : s.size ≤ maxLen) (w : World) :
    Calls Tryd.prog 33 #[.string s, .string ⟨#[45, 62]⟩] w fun e w' => e = .returned (.bool (Lib.hasPrefix s.data.toList [45, 62])) ∧ w' = w := by
  unfold maxLen at hs
  have C : Hid (∀ W, Calls Tryd.prog 39 #[.string s, .string ⟨#[45, 62]⟩] W fun e w' => e = .returned (.bool (Lib.hasPrefix s.data.toList [45, 62])) ∧ w' = W) := fun W => by
    have hr := Lib.hasPrefix_raw s ⟨#[45, 62]⟩
    have hsz : (⟨#[45, 62]⟩ : ByteArray).size = 2 := rfl
    rw [hsz] at hr
    obtain ⟨R, hR⟩ : ∃ R, R = Lib.hasPrefix s.data.toList [45, 62] := ⟨_, rfl⟩
    rw [show (⟨#[45, 62]⟩ : ByteArray).data.toList = [45, 62] from rfl, ← hR] at hr
    rw [← hR]
    clear hR
    by_cases h2 : 2 ≤ s.size
    · have h2' : ((2 : Nat) : Int) ≤ (s.size : Int) := by omega
      rw [decide_eq_true h2, Bool.true_and] at hr
      go_enter Tryd.func39, Tryd.ntmps39
      go_wp2
      go_ret
      exact ⟨ret_bool (by rw [ByteArray.toList_eq ⟨#[45, 62]⟩] at hr; exact hr), rfl⟩
    · have h2' : (s.size : Int) < 2 := by omega
      rw [decide_eq_false h2, Bool.false_and] at hr
      subst hr
      go_enter Tryd.func39, Tryd.ntmps39
      go_wp2
      go_ret
      exact ⟨rfl, rfl⟩
  clear hs
  go_enter Tryd.func33, Tryd.ntmps33
  go_wp2_with fail
  refine (C.out _).mono ?_
  rintro e w1 ⟨rfl, rfl⟩
  go_wp2_with fail
  go_ret
  exact ⟨rfl, rfl⟩

theorem arrow_pre (c : UInt8) (r : List UInt8) : Lib.hasPrefix (c :: r) [45, 62] = (c == 45 && r.head? == some 62) := by
  unfold Lib.hasPrefix
  cases r with
  | nil => simp [List.isPrefixOf]
  | cons d r =>
    simp only [List.isPrefixOf, Bool.and_true, List.head?_cons]
    rw [show (45 == c) = (c == 45) from Bool.beq_comm, show (some d == some 62) = (d == 62) from rfl, show (62 == d) = (d == 62) from Bool.beq_comm]

set_option maxHeartbeats 1000000 in
theorem sign_any (s : ByteArray) (hs : s.size ≤ maxLen) (c : UInt8) (r : List UInt8) (hS : s.data.toList = c :: r) (w : World) :
    Calls Tryd.prog 26 #[.string s] w fun e w' => e = .returned (.tuple #[.int .i64 ((signR c r).1 : Nat), .int .i64 ((signR c r).2 : Nat)]) ∧ w' = w := by
  have h0 : 0 < s.size := by rw [Lib.size_eq, hS]; simp
  have C : Hid (∀ W, Calls Tryd.prog 33 #[.string s, .string ⟨#[45, 62]⟩] W fun e w' => e = .returned (.bool (c == 45 && r.head? == some 62)) ∧ w' = W) := fun W => by
    have := arrow_any s hs W
    rwa [hS, arrow_pre] at this
  have hc : s[0] = c := by
    have := byte_q s 0 h0
    rw [hS] at this
    simpa using this.symm
  have hix : ∀ W, (Instr.index 9 (.string s) (.int .i64 0)).run Tryd.prog W = .ok (.int .u8 (c.toNat : Int)) W := fun W => by
    rw [← hc]
    simp [go_sem, Tryd.underlying9, h0]
  have e1 : ((c.toNat : Int) == 46) = (c == 46) := byte_beq c 46
  have e2 : ((c.toNat : Int) == 47) = (c == 47) := byte_beq c 47
  have e3 : ((c.toNat : Int) == 45) = (c == 45) := byte_beq c 45
  have e4 : ((c.toNat : Int) == 10) = (c == 10) := byte_beq c 10
  unfold signR
  clear hc h0 hS hs
  by_cases c1 : (c == 46) = true
  · rw [c1] at e1
    simp only [c1, if_true]
    go_enter Tryd.func26, Tryd.ntmps26
    go_wp2_with fail
    go_ret2
    exact ⟨rfl, rfl⟩
  have c1' : (c == 46) = false := by simpa using c1
  clear c1
  rw [c1'] at e1
  by_cases c2 : (c == 47) = true
  · rw [c2] at e2
    simp only [c1', c2, if_true, Bool.false_eq_true, if_false]
    go_enter Tryd.func26, Tryd.ntmps26
    go_wp2_with fail
    go_ret2
    exact ⟨rfl, rfl⟩
  have c2' : (c == 47) = false := by simpa using c2
  clear c2
  rw [c2'] at e2
  by_cases c3 : (c == 45) = true
  · rw [c3] at e3
    by_cases c4 : (r.head? == some 62) = true
    · have C' : Hid (∀ W, Calls Tryd.prog 33 #[.string s, .string ⟨#[45, 62]⟩] W fun e w' => e = .returned (.bool true) ∧ w' = W) := by
        have := C.out
        rw [c3, c4] at this
        exact this
      simp only [c1', c2', c3, c4, if_true, Bool.false_eq_true, if_false]
      clear C
      go_enter Tryd.func26, Tryd.ntmps26
      go_wp2_with fail
      refine (C'.out _).mono ?_
      rintro e w1 ⟨rfl, rfl⟩
      go_wp2_with fail
      go_ret2
      exact ⟨rfl, rfl⟩
    · have c4' : (r.head? == some 62) = false := by simpa using c4
      have C' : Hid (∀ W, Calls Tryd.prog 33 #[.string s, .string ⟨#[45, 62]⟩] W fun e w' => e = .returned (.bool false) ∧ w' = W) := by
        have := C.out
        rw [c3, c4'] at this
        exact this
      simp only [c1', c2', c3, c4', if_true, Bool.false_eq_true, if_false]
      clear C c4
      go_enter Tryd.func26, Tryd.ntmps26
      go_wp2_with fail
      refine (C'.out _).mono ?_
      rintro e w1 ⟨rfl, rfl⟩
      go_wp2_with fail
      go_ret2
      exact ⟨rfl, rfl⟩
  have c3' : (c == 45) = false := by simpa using c3
  clear c3
  rw [c3'] at e3
  have C' : Hid (∀ W, Calls Tryd.prog 33 #[.string s, .string ⟨#[45, 62]⟩] W fun e w' => e = .returned (.bool false) ∧ w' = W) := by
    have := C.out
    rw [c3'] at this
    exact this
  clear C
  by_cases c5 : (c == 10) = true
  · rw [c5] at e4
    simp only [c1', c2', c3', c5, if_true, Bool.false_eq_true, if_false]
    go_enter Tryd.func26, Tryd.ntmps26
    go_wp2_with fail
    refine (C'.out _).mono ?_
    rintro e w1 ⟨rfl, rfl⟩
    go_wp2_with fail
    go_ret2
    exact ⟨rfl, rfl⟩
  · have c5' : (c == 10) = false := by simpa using c5
    clear c5
    rw [c5'] at e4
    simp only [c1', c2', c3', c5', Bool.false_eq_true, if_false]
    go_enter Tryd.func26, Tryd.ntmps26
    go_wp2_with fail
    refine (C'.out _).mono ?_
    rintro e w1 ⟨rfl, rfl⟩
    go_wp2_with fail
    go_ret2
    exact ⟨rfl, rfl⟩
end Go.Proofs.YtgcfdcgmddjhbaaDoor
