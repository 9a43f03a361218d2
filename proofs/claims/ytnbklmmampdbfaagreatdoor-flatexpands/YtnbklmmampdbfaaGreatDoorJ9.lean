import Derived.Test.YtnbklmmampdbfaaGreatDoorJ1
import Derived.Test.YtnbklmmampdbfaaGreatDoorJ8
import Derived.WalkMore
import Derived.Defers
import Derived.Recover
import Derived.Test.YtnbklmmampdbfaaGreatDoorJ4
import Derived.Test.YtnbklmmampdbfaaGreatDoorJ5
import Derived.Test.YtnbklmmampdbfaaGreatDoorJ2
import Derived.Laws.ResultCell
import Derived.LaidMore
import Derived.Lib.OthersKept
import Derived.Lib.LaidTab
import Derived.Lib.ItoaNum
namespace Go.Proofs.YtnbklmmampdbfaaGreatDoor
open Go Go.RowKit
set_option maxRecDepth 20000

theorem str_beq (s : ByteArray) (x : List UInt8) : (s.toList == x) = (s.data.toList == x) := by rw [ByteArray.toList_eq]

/-- The sign with which a text begins. -/
def signR (c : UInt8) (r : List UInt8) : Nat × Nat :=
  if c == 46 then (3, 1) else if c == 47 then (4, 1) else if c == 45 then (if r.head? == some 62 then (6, 2) else (5, 1)) else if c == 10 then (7, 1) else (0, 0)

set_option maxHeartbeats 1000000 in
theorem arrow_any (s : ByteArray) (hs : s.size ≤ maxLen) (w : World) :
    Calls Tryz.prog 113 #[.string s, .string ⟨#[45, 62]⟩] w fun e w' => e = .returned (.bool (Lib.hasPrefix s.data.toList [45, 62])) ∧ w' = w := by
  unfold maxLen at hs
  have C : Hid (∀ W, Calls Tryz.prog 121 #[.string s, .string ⟨#[45, 62]⟩] W fun e w' => e = .returned (.bool (Lib.hasPrefix s.data.toList [45, 62])) ∧ w' = W) := fun W => by
    have hr := Lib.hasPrefix_raw s ⟨#[45, 62]⟩
    have hsz : (⟨#[45, 62]⟩ : ByteArray).size = 2 := rfl
    rw [hsz] at hr
    obtain ⟨R, hR⟩ : ∃ R, R = Lib.hasPrefix s.data.toList [45, 62] := ⟨_, rfl⟩
    rw [show (⟨#[45, 62]⟩ : ByteArray).data.toList = [45, 62] from rfl, ← hR] at hr
    rw [← hR]
    clear hR
    by_cases h2 : 2 ≤ s.size
    · have h2' : ((2 : Nat) : Int) ≤ (s.size : Int) := by omega
      rw [decide_eq_true h2, Bool.true_and] at hr
      go_enter Tryz.func121, Tryz.ntmps121
      go_wp2
      go_ret
      exact ⟨ret_bool (by rw [ByteArray.toList_eq ⟨#[45, 62]⟩] at hr; exact hr), rfl⟩
    · have h2' : (s.size : Int) < 2 := by omega
      rw [decide_eq_false h2, Bool.false_and] at hr
      subst hr
      go_enter Tryz.func121, Tryz.ntmps121
      go_wp2
      go_ret
      exact ⟨rfl, rfl⟩
  clear hs
  go_enter Tryz.func113, Tryz.ntmps113
  go_wp2_with fail
  refine (C.out _).mono ?_
  rintro e w1 ⟨rfl, rfl⟩
  go_wp2_with fail
  go_ret
  exact ⟨rfl, rfl⟩

theorem arrow_pre (c : UInt8) (r : List UInt8) : Lib.hasPrefix (c :: r) [45, 62] = (c == 45 && r.head? == some 62) := by
  unfold Lib.hasPrefix
  cases r with
  | nil => simp [List.isPrefixOf]
  | cons d r =>
    simp only [List.isPrefixOf, Bool.and_true, List.head?_cons]
    rw [show (45 == c) = (c == 45) from Bool.beq_comm, show (some d == some 62) = (d == 62) from rfl, show (62 == d) = (d == 62) from Bool.beq_comm]

set_option maxHeartbeats 1000000 in
theorem sign_any (s : ByteArray) (hs : s.size ≤ maxLen) (c : UInt8) (r : List UInt8) (hS : s.data.toList = c :: r) (w : World) :
    Calls Tryz.prog 95 #[.string s] w fun e w' => e = .returned (.tuple #[.int .i64 ((signR c r).1 : Nat), .int .i64 ((signR c r).2 : Nat)]) ∧ w' = w := by
  have h0 : 0 < s.size := by rw [Lib.size_eq, hS]; simp
  have C : Hid (∀ W, Calls Tryz.prog 113 #[.string s, .string ⟨#[45, 62]⟩] W fun e w' => e = .returned (.bool (c == 45 && r.head? == some 62)) ∧ w' = W) := fun W => by
    have := arrow_any s hs W
    rwa [hS, arrow_pre] at this
  have hc : s[0] = c := by
    have := byte_q s 0 h0
    rw [hS] at this
    simpa using this.symm
  have hix : ∀ W, (Instr.index 9 (.string s) (.int .i64 0)).run Tryz.prog W = .ok (.int .u8 (c.toNat : Int)) W := fun W => by
    rw [← hc]
    simp [go_sem, Tryz.underlying9, h0]
  have e1 : ((c.toNat : Int) == 46) = (c == 46) := byte_beq c 46
  have e2 : ((c.toNat : Int) == 47) = (c == 47) := byte_beq c 47
  have e3 : ((c.toNat : Int) == 45) = (c == 45) := byte_beq c 45
  have e4 : ((c.toNat : Int) == 10) = (c == 10) := byte_beq c 10
  unfold signR
  clear hc h0 hS hs
  by_cases c1 : (c == 46) = true
  · rw [c1] at e1
    simp only [c1, if_true]
    go_enter Tryz.func95, Tryz.ntmps95
    go_wp2_with fail
    go_ret2
    exact ⟨rfl, rfl⟩
  have c1' : (c == 46) = false := by simpa using c1
  clear c1
  rw [c1'] at e1
  by_cases c2 : (c == 47) = true
  · rw [c2] at e2
    simp only [c1', c2, if_true, Bool.false_eq_true, if_false]
    go_enter Tryz.func95, Tryz.ntmps95
    go_wp2_with fail
    go_ret2
    exact ⟨rfl, rfl⟩
  have c2' : (c == 47) = false := by simpa using c2
  clear c2
  rw [c2'] at e2
  by_cases c3 : (c == 45) = true
  · rw [c3] at e3
    by_cases c4 : (r.head? == some 62) = true
    · have C' : Hid (∀ W, Calls Tryz.prog 113 #[.string s, .string ⟨#[45, 62]⟩] W fun e w' => e = .returned (.bool true) ∧ w' = W) := by
        have := C.out
        rw [c3, c4] at this
        exact this
      simp only [c1', c2', c3, c4, if_true, Bool.false_eq_true, if_false]
      clear C
      go_enter Tryz.func95, Tryz.ntmps95
      go_wp2_with fail
      refine (C'.out _).mono ?_
      rintro e w1 ⟨rfl, rfl⟩
      go_wp2_with fail
      go_ret2
      exact ⟨rfl, rfl⟩
    · have c4' : (r.head? == some 62) = false := by simpa using c4
      have C' : Hid (∀ W, Calls Tryz.prog 113 #[.string s, .string ⟨#[45, 62]⟩] W fun e w' => e = .returned (.bool false) ∧ w' = W) := by
        have := C.out
        rw [c3, c4'] at this
        exact this
      simp only [c1', c2', c3, c4', if_true, Bool.false_eq_true, if_false]
      clear C c4
      go_enter Tryz.func95, Tryz.ntmps95
      go_wp2_with fail
      refine (C'.out _).mono ?_
      rintro e w1 ⟨rfl, rfl⟩
      go_wp2_with fail
      go_ret2
      exact ⟨rfl, rfl⟩
  have c3' : (c == 45) = false := by simpa using c3
  clear c3
  rw [c3'] at e3
  have C' : Hid (∀ W, Calls Tryz.prog 113 #[.string s, .string ⟨#[45, 62]⟩] W fun e w' => e = .returned (.bool false) ∧ w' = W) := by
    have := C.out
    rw [c3'] at this
    exact this
  clear C
  by_cases c5 : (c == 10) = true
  · rw [c5] at e4
    simp only [c1', c2', c3', c5, if_true, Bool.false_eq_true, if_false]
    go_enter Tryz.func95, Tryz.ntmps95
    go_wp2_with fail
    refine (C'.out _).mono ?_
    rintro e w1 ⟨rfl, rfl⟩
    go_wp2_with fail
    go_ret2
    exact ⟨rfl, rfl⟩
  · have c5' : (c == 10) = false := by simpa using c5
    clear c5
    rw [c5'] at e4
    simp only [c1', c2', c3', c5', Bool.false_eq_true, if_false]
    go_enter Tryz.func95, Tryz.ntmps95
    go_wp2_with fail
    refine (C'.out _).mono ?_
    rintro e w1 ⟨rfl, rfl⟩
    go_wp2_with fail
    go_ret2
    exact ⟨rfl, rfl⟩
end Go.Proofs.YtnbklmmampdbfaaGreatDoor
namespace Go.Proofs.YtnbklmmampdbfaaGreatDoor
open Go Go.RowKit
set_option maxRecDepth 20000

/-- A number and what is wrong with it. -/
def numR (D : List UInt8) : Nat × Nat := match numOf D with | some n => (n, 0) | none => (0, 7)
theorem val_app (D : List UInt8) (c : UInt8) : val (D ++ [c]) = val D * 10 + (c.toNat - 48) := by unfold val; rw [List.foldl_append]; rfl
theorem val_grow : ∀ (E : List UInt8) (n : Nat), n ≤ E.foldl (fun n c => n * 10 + (c.toNat - 48)) n
  | [], n => Nat.le_refl n
  | c :: E, n => by
    rw [List.foldl_cons]
    exact Nat.le_trans (by omega) (val_grow E _)
theorem val_mono (D E : List UInt8) : val D ≤ val (D ++ E) := by
  unfold val
  rw [List.foldl_append]
  exact val_grow E _
theorem val_take (D : List UInt8) (k : Nat) (hk : k < D.length) : val (D.take (k + 1)) = val (D.take k) * 10 + (D[k].toNat - 48) := by
  rw [List.take_succ_eq_append_getElem hk, val_app]
theorem val_take_le (D : List UInt8) (k : Nat) : val (D.take k) ≤ val D := by
  have := val_mono (D.take k) (D.drop k)
  rwa [List.take_append_drop] at this

set_option maxHeartbeats 1000000 in
theorem number_any (s : ByteArray) (hs : s.size ≤ maxLen) (h0 : 0 < s.size) (hD : ∀ c ∈ s.data.toList, isDig c = true) (w : World) :
    Calls Tryz.prog 94 #[.string s] w fun e w' => e = .returned (.tuple #[.int .i64 ((numR s.data.toList).1 : Nat), .int .i64 ((numR s.data.toList).2 : Nat)]) ∧ w' = w := by
  unfold maxLen at hs
  have hlen : s.data.toList.length = s.size := (Lib.size_eq s).symm
  obtain ⟨S, hS⟩ : ∃ S, S = s.data.toList := ⟨_, rfl⟩
  have hby : ∀ k (hk : k < s.size), ∃ b : Nat, 48 ≤ b ∧ b ≤ 57 ∧ s[k].toNat = b ∧ val (S.take (k + 1)) = val (S.take k) * 10 + (b - 48) := fun k hk => by
    have hm : s[k] ∈ s.data.toList := List.mem_of_getElem? (byte_q s k hk)
    have := hD _ hm
    unfold isDig at this
    simp only [Bool.and_eq_true, decide_eq_true_eq] at this
    refine ⟨_, this.1, this.2, rfl, ?_⟩
    have hk' : k < S.length := by rw [hS, hlen]; exact hk
    rw [val_take S k hk']
    have e : S[k] = s[k] := by
      have := byte_q s k hk
      rw [← hS, List.getElem?_eq_getElem hk'] at this
      simpa using this
    rw [e]
  have HBY : Hid (∀ k (hk : k < s.size), ∃ b : Nat, 48 ≤ b ∧ b ≤ 57 ∧ s[k].toNat = b ∧ val (S.take (k + 1)) = val (S.take k) * 10 + (b - 48)) := hby
  have hh : S.head? = some s[0] := by
    have := byte_q s 0 h0
    rw [← hS] at this
    rw [List.head?_eq_getElem?]; exact this
  have hz : ((s[0].toNat : Int) == 48) = (S.head? == some 48) := by
    rw [hh]; exact byte_beq s[0] 48
  have hix0 : ∀ W, (Instr.index 9 (.string s) (.int .i64 0)).run Tryz.prog W = .ok (.int .u8 (s[0].toNat : Int)) W := fun W => by
    simp [go_sem, Tryz.underlying9, h0]
  have HL : Hid (S.length = s.size) := by rw [hS]; exact hlen
  rw [← hS]
  obtain ⟨R, hR⟩ : ∃ R, R = numR S := ⟨_, rfl⟩
  have HR : Hid (R = if decide (4294967295 < val S) || (decide (1 < s.size) && S.head? == some 48) then (0, 7) else (val S, 0)) := by
    show R = _
    rw [hR, ← HL.out]
    unfold numR numOf
    split <;> rename_i h1
    · split at h1
      · cases h1
      · obtain rfl := Option.some.inj h1; rw [if_neg (by assumption)]
    · split at h1
      · rw [if_pos (by assumption)]
      · cases h1
  rw [← hR]
  obtain ⟨z0, hz0⟩ : ∃ z0 : Int, z0 = (s[0].toNat : Int) := ⟨_, rfl⟩
  rw [← hz0] at hz hix0
  clear hR hS hD hlen hby hh hz0
  have LOOP : Hid (Hid (R = if decide (4294967295 < val S) then (0, 7) else (val S, 0)) → (1 < (s.size : Int) → (z0 == 48) = false) → Calls Tryz.prog 94 #[.string s] w fun e w' => e = .returned (.tuple #[.int .i64 (R.1 : Nat), .int .i64 (R.2 : Nat)]) ∧ w' = w) := by
    intro HR2 hg
    clear HR hz
    by_cases h1 : 1 < (s.size : Int)
    · have hg1 := hg h1
      clear hg
      go_enter Tryz.func94, Tryz.ntmps94
      go_wp2_with fail
      go_loop [4, 16] (fun v i => ∃ k : Nat, k ≤ s.size ∧ i = .int .i64 (k : Int) ∧ v = .int .i64 ((val (S.take k) : Nat) : Int) ∧ val (S.take k) ≤ 4294967295) (fun _ i => s.size - (intOf i).toNat)
      case atStart => exact ⟨0, Nat.zero_le _, rfl, rfl, Nat.zero_le _⟩
      case round =>
        obtain ⟨k, hk, rfl, rfl, hv⟩ := hrel
        by_cases hlt : k < s.size
        · obtain ⟨b, hb1, hb2, hb3, hb4⟩ := HBY.out k hlt
          have hix : ∀ W, (Instr.index 9 (.string s) (.int .i64 (k : Int))).run Tryz.prog W = .ok (.int .u8 (b : Int)) W := fun W => by
            rw [← hb3]
            simp [go_sem, Tryz.underlying9, hlt]
          obtain ⟨x, hx⟩ : ∃ x, x = val (S.take k) := ⟨_, rfl⟩
          rw [← hx] at hv hb4 ⊢
          obtain ⟨y, hy⟩ : ∃ y, y = x * 10 + (b - 48) := ⟨_, rfl⟩
          have hyz : (x : Int) * 10 + ((b : Int) - 48) = (y : Int) := by omega
          have HB4 : Hid (val (S.take (k + 1)) = y) := by show _ = _; rw [hb4, hy]
          have hlt' : (k : Int) < (s.size : Int) := by omega
          have hy2 : y ≤ 100000000000 := by omega
          clear hb4 hb3 hx hy
          by_cases hbig : 4294967295 < y
          · have HRZ : Hid (R = (0, 7)) := by
              show _ = _
              rw [HR2.out, if_pos]
              have := val_take_le S (k + 1)
              rw [HB4.out] at this
              exact decide_eq_true (by omega)
            go_wp2_with fail
            go_ret2
            exact ⟨by rw [HRZ.out]; rfl, rfl⟩
          · go_wp2_with fail
            go_round
            case rel => exact ⟨k + 1, by omega, by go_num, by rw [HB4.out], by rw [HB4.out]; omega⟩
            case measure => simp [intOf]; omega
        · have hk' : k = s.size := by omega
          have hlt' : (s.size : Int) ≤ (k : Int) := by omega
          have HRZ : Hid (R = (val (S.take k), 0)) := by
            show _ = _
            have e : S.take k = S := by rw [List.take_of_length_le]; rw [HL.out]; omega
            rw [e] at hv ⊢
            rw [HR2.out, if_neg (by simpa using hv)]
          clear hk' hlt
          go_wp2_with fail
          go_ret2
          exact ⟨by rw [HRZ.out]; rfl, rfl⟩
    · clear hg
      go_enter Tryz.func94, Tryz.ntmps94
      go_wp2_with fail
      go_loop [4, 16] (fun v i => ∃ k : Nat, k ≤ s.size ∧ i = .int .i64 (k : Int) ∧ v = .int .i64 ((val (S.take k) : Nat) : Int) ∧ val (S.take k) ≤ 4294967295) (fun _ i => s.size - (intOf i).toNat)
      case atStart => exact ⟨0, Nat.zero_le _, rfl, rfl, Nat.zero_le _⟩
      case round =>
        obtain ⟨k, hk, rfl, rfl, hv⟩ := hrel
        by_cases hlt : k < s.size
        · obtain ⟨b, hb1, hb2, hb3, hb4⟩ := HBY.out k hlt
          have hix : ∀ W, (Instr.index 9 (.string s) (.int .i64 (k : Int))).run Tryz.prog W = .ok (.int .u8 (b : Int)) W := fun W => by
            rw [← hb3]
            simp [go_sem, Tryz.underlying9, hlt]
          obtain ⟨x, hx⟩ : ∃ x, x = val (S.take k) := ⟨_, rfl⟩
          rw [← hx] at hv hb4 ⊢
          obtain ⟨y, hy⟩ : ∃ y, y = x * 10 + (b - 48) := ⟨_, rfl⟩
          have hyz : (x : Int) * 10 + ((b : Int) - 48) = (y : Int) := by omega
          have HB4 : Hid (val (S.take (k + 1)) = y) := by show _ = _; rw [hb4, hy]
          have hlt' : (k : Int) < (s.size : Int) := by omega
          have hy2 : y ≤ 100000000000 := by omega
          clear hb4 hb3 hx hy
          by_cases hbig : 4294967295 < y
          · have HRZ : Hid (R = (0, 7)) := by
              show _ = _
              rw [HR2.out, if_pos]
              have := val_take_le S (k + 1)
              rw [HB4.out] at this
              exact decide_eq_true (by omega)
            go_wp2_with fail
            go_ret2
            exact ⟨by rw [HRZ.out]; rfl, rfl⟩
          · go_wp2_with fail
            go_round
            case rel => exact ⟨k + 1, by omega, by go_num, by rw [HB4.out], by rw [HB4.out]; omega⟩
            case measure => simp [intOf]; omega
        · have hk' : k = s.size := by omega
          have hlt' : (s.size : Int) ≤ (k : Int) := by omega
          have HRZ : Hid (R = (val (S.take k), 0)) := by
            show _ = _
            have e : S.take k = S := by rw [List.take_of_length_le]; rw [HL.out]; omega
            rw [e] at hv ⊢
            rw [HR2.out, if_neg (by simpa using hv)]
          clear hk' hlt
          go_wp2_with fail
          go_ret2
          exact ⟨by rw [HRZ.out]; rfl, rfl⟩
  by_cases h1 : 1 < (s.size : Int)
  · by_cases hzz : (S.head? == some 48) = true
    · have hR2 : R = (0, 7) := by
        rw [HR.out, if_pos]
        rw [hzz, decide_eq_true (by omega : 1 < s.size)]; simp
      subst hR2
      rw [hzz] at hz
      clear HR LOOP
      go_enter Tryz.func94, Tryz.ntmps94
      go_wp2_with fail
      go_ret2
      exact ⟨rfl, rfl⟩
    · have hzz' : (S.head? == some 48) = false := by simpa using hzz
      refine LOOP.out ?_ fun _ => by rw [hz]; exact hzz'
      show R = _
      rw [HR.out, hzz']; simp
  · refine LOOP.out ?_ fun h => absurd h h1
    show R = _
    rw [HR.out, decide_eq_false (by omega : ¬ 1 < s.size)]; simp
end Go.Proofs.YtnbklmmampdbfaaGreatDoor
namespace Go.Proofs.YtnbklmmampdbfaaGreatDoor
open Go Go.RowKit
set_option maxRecDepth 20000

/-- What 'first' answers. -/
def FirstR (x : Lx × Nat) (e : Ending) : Prop :=
  match x with
  | (.ok (some (k, t, v)), n) => e = .returned (.tuple #[.agg (tv (k : Nat) 0 ⟨t.toArray⟩ (v : Nat)), .int .i64 ((n + 1 : Nat) : Int), .int .i64 0])
  | (.error er, _) => ∃ k v m : Int, e = .returned (.tuple #[.agg (tv k 0 ⟨#[]⟩ v), .int .i64 m, .int .i64 (er : Nat)])
  | (.ok none, _) => False

theorem abc_str : (⟨#[97, 98, 99, 100, 101, 102, 103, 104, 105, 106, 107, 108, 109, 110, 111, 112, 113, 114, 115, 116, 117, 118, 119, 120, 121, 122]⟩ : ByteArray).data.toList = abcL := rfl
theorem dig_str : (⟨#[48, 49, 50, 51, 52, 53, 54, 55, 56, 57]⟩ : ByteArray).data.toList = digL := rfl
theorem abc_row (s : ByteArray) (hs : s.size ≤ maxLen) (w : World) :
    Calls Tryz.prog 92 #[.string s, .string ⟨#[97, 98, 99, 100, 101, 102, 103, 104, 105, 106, 107, 108, 109, 110, 111, 112, 113, 114, 115, 116, 117, 118, 119, 120, 121, 122]⟩] w fun e w' => e = .returned (.int .i64 ((s.data.toList.takeWhile isLet).length : Nat)) ∧ w' = w :=
  row_any s hs _ isLet (fun c => by rw [abc_str]; exact abc_let c) w
theorem dig_row (s : ByteArray) (hs : s.size ≤ maxLen) (w : World) :
    Calls Tryz.prog 92 #[.string s, .string ⟨#[48, 49, 50, 51, 52, 53, 54, 55, 56, 57]⟩] w fun e w' => e = .returned (.int .i64 ((s.data.toList.takeWhile isDig).length : Nat)) ∧ w' = w :=
  row_any s hs _ isDig (fun c => by rw [dig_str]; exact dig_dig c) w

theorem mk_of_data {s : ByteArray} {x : List UInt8} (h : s.data.toList = x) : s = ⟨x.toArray⟩ := by
  subst h; exact (Lib.mk_data s).symm

theorem dig_all {c : UInt8} {r : List UInt8} (h : isDig c = true) : ∀ b ∈ c :: r.takeWhile isDig, isDig b = true := fun b hb => by
  rcases List.mem_cons.1 hb with rfl | hb
  · exact h
  · exact takeWhile_all _ _ b hb

set_option maxHeartbeats 2000000 in
theorem first_any (s : ByteArray) (hs : s.size ≤ 4096) (c : UInt8) (r : List UInt8) (hS : s.data.toList = c :: r) (hb : isBlank c = false) (hh : (c == 35) = false) (w : World) :
    Calls Tryz.prog 69 #[.string s] w fun e w' => FirstR (lexeme c r) e ∧ Below w.heap.size w w' := by
  have hsz : s.size = r.length + 1 := by rw [Lib.size_eq, hS]; rfl
  have hm : s.size ≤ maxLen := by unfold maxLen; omega
  have C1 : Hid (∀ W, Calls Tryz.prog 92 #[.string s, .string ⟨#[97, 98, 99, 100, 101, 102, 103, 104, 105, 106, 107, 108, 109, 110, 111, 112, 113, 114, 115, 116, 117, 118, 119, 120, 121, 122]⟩] W fun e w' => e = .returned (.int .i64 (((c :: r).takeWhile isLet).length : Nat)) ∧ w' = W) := fun W => by
    rw [← hS]; exact abc_row s hm W
  have C2 : Hid (∀ W, Calls Tryz.prog 92 #[.string s, .string ⟨#[48, 49, 50, 51, 52, 53, 54, 55, 56, 57]⟩] W fun e w' => e = .returned (.int .i64 (((c :: r).takeWhile isDig).length : Nat)) ∧ w' = W) := fun W => by
    rw [← hS]; exact dig_row s hm W
  have C3 : Hid (∀ W, Calls Tryz.prog 95 #[.string s] W fun e w' => e = .returned (.tuple #[.int .i64 ((signR c r).1 : Nat), .int .i64 ((signR c r).2 : Nat)]) ∧ w' = W) := fun W => sign_any s hm c r hS W
  by_cases c1 : isLet c = true
  · have hx : lexeme c r = (Lx.tok 1 (c :: r.takeWhile isLet) 0, (r.takeWhile isLet).length) := by
      unfold lexeme
      simp only [hb, c1, Bool.false_eq_true, if_false, if_true]
    rw [hx]
    clear hx
    have ht : ((c :: r).takeWhile isLet).length = (r.takeWhile isLet).length + 1 := by rw [List.takeWhile_cons, if_pos c1]; rfl
    have hle := takeWhile_le isLet r
    have hd : (s.extract 0 ((r.takeWhile isLet).length + 1)).data.toList = c :: r.takeWhile isLet := by
      rw [Lib.extract_data, hS, List.drop_zero, Nat.sub_zero, List.take_succ_cons, takeWhile_take]
    have hE := mk_of_data hd
    obtain ⟨n, hn⟩ : ∃ n, n = (r.takeWhile isLet).length := ⟨_, rfl⟩
    obtain ⟨t, ht2⟩ : ∃ t, t = c :: r.takeWhile isLet := ⟨_, rfl⟩
    rw [← hn] at ht hle hE
    rw [← ht2] at hE
    rw [ht] at C1
    rw [← hn, ← ht2]
    have C4 : Hid (∀ W, Calls Tryz.prog 93 #[.string (s.extract 0 (n + 1))] W fun e w' => e = .returned (.string (s.extract 0 (n + 1))) ∧ Below W.heap.size W w') := fun W => clone_any _ W (by
      rw [ByteArray.size_extract]; omega)
    clear ht2 hn hd ht c1 hS C2 C3 hb hh hm
    have HE : Hid (s.extract 0 (n + 1) = ⟨t.toArray⟩) := hE
    clear hE
    go_enter Tryz.func69, Tryz.ntmps69
    go_wp2_with fail
    refine (C1.out _).mono ?_
    rintro e w1 ⟨rfl, rfl⟩
    go_wp2_with fail
    refine (C4.out _).mono ?_
    rintro e w2 ⟨rfl, hb2⟩
    rw [HE.out]
    have g2 : w2.heap[w.heap.size]? = some (.cells (tv 0 0 ⟨#[]⟩ 0) 117 (0, 0)) := by rw [hb2.block _ (by simp)]; exact heap_new _ _ _ rfl
    have B2 : Below w.heap.size w w2 := ((Below.refl _ _).alloc (Nat.le_refl _) _).trans (hb2.mono (by simp))
    go_wp2_with (first
      | (refine wl_storeE (E := TokE) TokOk rfl _ _ rfl w.heap.size (tv 1 0 ⟨t.toArray⟩ 0) (tv_fits _ _ _ _) rfl rfl _ g2 rfl _ rfl ?_))
    refine retT (p := 2) (u := 3) (u' := 4) rfl rfl w.heap.size rfl (tv 1 0 ⟨t.toArray⟩ 0) rfl (setRow_heap _ _ _ _ _ _ g2) _ _ rfl rfl ⟨rfl, ?_⟩
    exact below_setRow B2 (Nat.le_refl _) _
  have c1' : isLet c = false := by simpa using c1
  have t1 : ((c :: r).takeWhile isLet).length = 0 := by rw [List.takeWhile_cons, if_neg c1]; rfl
  rw [t1] at C1
  clear t1 c1
  by_cases c2 : isDig c = true
  · have hx : lexeme c r = (match numOf (c :: r.takeWhile isDig) with | some n => Lx.tok 2 [] n | Option.none => Lx.err 7, (r.takeWhile isDig).length) := by
      unfold lexeme
      simp only [hb, c1', c2, Bool.false_eq_true, if_false, if_true]
      rfl
    have ht : ((c :: r).takeWhile isDig).length = (r.takeWhile isDig).length + 1 := by rw [List.takeWhile_cons, if_pos c2]; rfl
    have hle := takeWhile_le isDig r
    have hd : (s.extract 0 ((r.takeWhile isDig).length + 1)).data.toList = c :: r.takeWhile isDig := by
      rw [Lib.extract_data, hS, List.drop_zero, Nat.sub_zero, List.take_succ_cons, takeWhile_take]
    have C4 : Hid (∀ W, Calls Tryz.prog 94 #[.string (s.extract 0 ((r.takeWhile isDig).length + 1))] W fun e w' => e = .returned (.tuple #[.int .i64 ((numR (c :: r.takeWhile isDig)).1 : Nat), .int .i64 ((numR (c :: r.takeWhile isDig)).2 : Nat)]) ∧ w' = W) := fun W => by
      have := number_any (s.extract 0 ((r.takeWhile isDig).length + 1)) (by rw [ByteArray.size_extract]; unfold maxLen; omega) (by rw [ByteArray.size_extract]; omega) (by rw [hd]; exact dig_all c2) W
      rwa [hd] at this
    have HX : Hid (∀ m : Int, FirstR (lexeme c r) (.returned (.tuple #[.agg (tv 2 0 ⟨#[]⟩ ((numR (c :: r.takeWhile isDig)).1 : Nat)), .int .i64 (((r.takeWhile isDig).length + 1 : Nat) : Int), .int .i64 ((numR (c :: r.takeWhile isDig)).2 : Nat)]))) := fun _ => by
      rw [hx]
      unfold numR
      cases numOf (c :: r.takeWhile isDig) with
      | some v => exact rfl
      | none => exact ⟨_, _, _, rfl⟩
    obtain ⟨n, hn⟩ : ∃ n, n = (r.takeWhile isDig).length := ⟨_, rfl⟩
    obtain ⟨R, hR⟩ : ∃ R, R = numR (c :: r.takeWhile isDig) := ⟨_, rfl⟩
    rw [← hR, ← hn] at C4 HX
    rw [← hn] at ht hle
    rw [ht] at C2
    clear hR hn hd ht c2 hS C3 hb hh hm hx
    go_enter Tryz.func69, Tryz.ntmps69
    go_wp2_with fail
    refine (C1.out _).mono ?_
    rintro e w1 ⟨rfl, rfl⟩
    go_wp2_with fail
    refine (C2.out _).mono ?_
    rintro e w1 ⟨rfl, rfl⟩
    go_wp2_with fail
    refine (C4.out _).mono ?_
    rintro e w1 ⟨rfl, rfl⟩
    go_wp2_with (first
      | (refine wl_storeE (E := TokE) TokOk rfl _ _ rfl w.heap.size (tv 2 0 ⟨#[]⟩ (R.1 : Nat)) (tv_fits _ _ _ _) rfl rfl _ (heap_new _ _ _ rfl) rfl _ (setRow_new _ _ _ _ _ rfl) ?_))
    refine retT (p := 2) (u := 3) (u' := 4) rfl rfl w.heap.size rfl (tv 2 0 ⟨#[]⟩ (R.1 : Nat)) rfl (heap_new _ _ _ rfl) _ _ rfl rfl ⟨HX.out 0, ?_⟩
    exact (Below.refl _ _).alloc (Nat.le_refl _) _
  have c2' : isDig c = false := by simpa using c2
  have t2 : ((c :: r).takeWhile isDig).length = 0 := by rw [List.takeWhile_cons, if_neg c2]; rfl
  rw [t2] at C2
  clear t2 c2
  have HX : Hid (if (signR c r).2 = 0 then lexeme c r = (Lx.err 6, 0) else ∃ m, (signR c r).2 = m + 1 ∧ lexeme c r = (Lx.tok (signR c r).1 [] 0, m)) := by
    show ite _ _ _
    unfold lexeme signR
    simp only [hb, c1', c2', Bool.false_eq_true, if_false]
    by_cases k1 : (c == 46) = true
    · simp [k1]
    · have k1' : (c == 46) = false := by simpa using k1
      by_cases k2 : (c == 47) = true
      · simp [k1', k2]
      · have k2' : (c == 47) = false := by simpa using k2
        by_cases k3 : (c == 45) = true
        · by_cases k4 : (r.head? == some 62) = true
          · simp only [k1', k2', k3, k4]; simp
          · have k4' : (r.head? == some 62) = false := by simpa using k4
            simp only [k1', k2', k3, k4']; simp
        · have k3' : (c == 45) = false := by simpa using k3
          by_cases k5 : (c == 10) = true
          · simp [k1', k2', k3', k5]
          · have k5' : (c == 10) = false := by simpa using k5
            simp [k1', k2', k3', k5', hh]
  obtain ⟨R, hR⟩ : ∃ R, R = signR c r := ⟨_, rfl⟩
  rw [← hR] at C3 HX
  clear hR hS hb hh hm c1' c2'
  by_cases h0 : R.2 = 0
  · have HY : Hid (lexeme c r = (Lx.err 6, 0)) := by
      have := HX.out
      rwa [if_pos h0] at this
    rw [HY.out]
    rw [h0] at C3
    clear HX h0
    go_enter Tryz.func69, Tryz.ntmps69
    go_wp2_with fail
    refine (C1.out _).mono ?_
    rintro e w1 ⟨rfl, rfl⟩
    go_wp2_with fail
    refine (C2.out _).mono ?_
    rintro e w1 ⟨rfl, rfl⟩
    go_wp2_with fail
    refine (C3.out _).mono ?_
    rintro e w1 ⟨rfl, rfl⟩
    go_wp2_with (first
      | (refine wl_storeE (E := TokE) TokOk rfl _ _ rfl w.heap.size (tv 0 0 ⟨#[]⟩ 0) (tv_fits _ _ _ _) rfl rfl _ (heap_new _ _ _ rfl) rfl _ (setRow_new _ _ _ _ _ rfl) ?_))
    refine retT (p := 2) (u := 3) (u' := 4) rfl rfl w.heap.size rfl (tv 0 0 ⟨#[]⟩ 0) rfl (heap_new _ _ _ rfl) _ _ rfl rfl ⟨⟨_, _, _, rfl⟩, ?_⟩
    exact (Below.refl _ _).alloc (Nat.le_refl _) _
  · obtain ⟨m, hm, hl⟩ : ∃ m, R.2 = m + 1 ∧ lexeme c r = (Lx.tok R.1 [] 0, m) := by
      have := HX.out
      rwa [if_neg h0] at this
    have hm2 : m ≤ r.length := by have := lexeme_le c r; rw [hl] at this; exact this
    rw [hl]
    rw [hm] at C3
    obtain ⟨k, hk⟩ : ∃ k, k = R.1 := ⟨_, rfl⟩
    rw [← hk] at C3 ⊢
    clear HX h0 hl hm hk
    go_enter Tryz.func69, Tryz.ntmps69
    go_wp2_with fail
    refine (C1.out _).mono ?_
    rintro e w1 ⟨rfl, rfl⟩
    go_wp2_with fail
    refine (C2.out _).mono ?_
    rintro e w1 ⟨rfl, rfl⟩
    go_wp2_with fail
    refine (C3.out _).mono ?_
    rintro e w1 ⟨rfl, rfl⟩
    go_wp2_with (first
      | (refine wl_storeE (E := TokE) TokOk rfl _ _ rfl w.heap.size (tv (k : Nat) 0 ⟨#[]⟩ 0) (tv_fits _ _ _ _) rfl rfl _ (heap_new _ _ _ rfl) rfl _ (setRow_new _ _ _ _ _ rfl) ?_))
    refine retT (p := 2) (u := 3) (u' := 4) rfl rfl w.heap.size rfl (tv (k : Nat) 0 ⟨#[]⟩ 0) rfl (heap_new _ _ _ rfl) _ _ rfl rfl ⟨rfl, ?_⟩
    exact (Below.refl _ _).alloc (Nat.le_refl _) _
end Go.Proofs.YtnbklmmampdbfaaGreatDoor
namespace Go.Proofs.YtnbklmmampdbfaaGreatDoor
open Go Go.RowKit
set_option maxRecDepth 20000

/-- What a text comes to: its tokens, or what is wrong with it and where. -/
def lexT (S : List UInt8) : List Tok × Nat × Nat :=
  if 4096 < S.length then ([], 5, 4096) else match lexW 0 S with | .ok l => (l, 0, 0) | .error x => ([], x.1, x.2)

theorem err_ne {c : UInt8} {r : List UInt8} {n e : Nat} (h : lexeme c r = (Lx.err e, n)) : e = 6 ∨ e = 7 :=
  (lexW_error (c :: r) 0 e 0 (lexW_err h)).2.2
theorem lexW_len {S : List UInt8} {l : List Tok} (h : lexW 0 S = .ok l) : l.length ≤ S.length := (lexW_places S 0 l h).2.2

set_option maxHeartbeats 4000000 in
theorem tokens_any (s : ByteArray) (hs : s.size ≤ maxLen) (w : World) :
    Calls Tryz.prog 42 #[.string s] w fun e w' => ∃ u, e = .returned (.tuple #[u, .int .i64 ((lexT s.data.toList).2.1 : Nat), .int .i64 ((lexT s.data.toList).2.2 : Nat)]) ∧
      w'.ownsRow w.heap.size 117 4 u (lexT s.data.toList).1.length (gcells encT (lexT s.data.toList).1) ∧ Below w.heap.size w w' := by
  unfold maxLen at hs
  by_cases h4 : 4096 < s.size
  · have hR : lexT s.data.toList = ([], 5, 4096) := by unfold lexT; rw [if_pos (by rw [← Lib.size_eq]; exact h4)]
    rw [hR]
    have h4' : (s.size : Int) > 4096 := by omega
    clear hR h4
    go_enter Tryz.func42, Tryz.ntmps42
    go_wp2_with fail
    go_step3
    go_wp2_with fail
    rw [Exit.noGoto_ret]
    go_ret3
    exact ⟨_, rfl, World.ownsRow_nil _ _ _ _, Below.refl _ _⟩
  · obtain ⟨S, hS⟩ : ∃ S, S = s.data.toList := ⟨_, rfl⟩
    have hlen : S.length = s.size := by rw [hS]; exact (Lib.size_eq s).symm
    have HR : Hid (lexT S = match lexW 0 S with | .ok l => (l, 0, 0) | .error x => ([], x.1, x.2)) := by
      show _ = _
      unfold lexT
      rw [if_neg (by omega)]
    have HS : Hid (S = s.data.toList) := hS
    rw [← hS]
    obtain ⟨R, hRR⟩ : ∃ R, R = lexT S := ⟨_, rfl⟩
    rw [← hRR] at HR ⊢
    have h4' : ¬ (s.size : Int) > 4096 := by omega
    clear hS hRR
    go_enter Tryz.func42, Tryz.ntmps42
    go_wp2_with fail
    go_step3
    go_wp2_with fail
    go_step3
    go_wp2_with fail
    go_loopw [5, 6] (fun out i wr => ∃ p : Nat, p ≤ s.size ∧ i = .int .i64 (p : Int) ∧ ∃ P : List Tok, P.length ≤ p ∧ Hid (lexW 0 S = glue P (lexW p (S.drop p))) ∧ wr.ownsRow w.heap.size 117 4 out P.length (gcells encT P) ∧ Below w.heap.size w wr) (fun _ i _ => s.size - (intOf i).toNat)
    case atStart => exact ⟨0, Nat.zero_le _, rfl, [], Nat.zero_le _, (glue_nil _).symm, World.ownsRow_nil _ _ _ _, Below.refl _ _⟩
    case round =>
      obtain ⟨p, hp, rfl, P, hPl, HW, hown, hb⟩ := hrel
      have OWN : Hid (wr.ownsRow w.heap.size 117 4 u5 P.length (gcells encT P)) := hown
      clear hown
      by_cases hlt : p < s.size
      · have hlt' : (p : Int) < (s.size : Int) := by omega
        obtain ⟨c, r, hcr⟩ : ∃ c r, S.drop p = c :: r := by
          cases h : S.drop p with
          | nil =>
            have := congrArg List.length h
            rw [List.length_drop] at this
            simp at this
            omega
          | cons c r => exact ⟨c, r, rfl⟩
        have hrl : r.length + 1 + p = s.size := by
          have := congrArg List.length hcr
          rw [List.length_drop] at this
          simp at this
          omega
        have hix : ∀ W, (Instr.index 9 (.string s) (.int .i64 (p : Int))).run Tryz.prog W = .ok (.int .u8 (c.toNat : Int)) W := fun W => by
          have hc : s[p] = c := by
            have h1 := byte_q s p hlt
            rw [← HS.out] at h1
            have h2 : S[p]? = some c := by rw [← List.head?_drop, hcr]; rfl
            rw [h1] at h2
            simpa using h2
          rw [← hc]
          simp [go_sem, Tryz.underlying9, hlt]
        have HD : Hid (∀ n, r.drop n = S.drop (p + 1 + n)) := fun n => by
          have := congrArg (List.drop 1) hcr
          rw [List.drop_drop] at this
          simp only [List.drop_succ_cons, List.drop_zero] at this
          rw [← this, List.drop_drop]
        have HX : Hid ((s.extract p s.size).data.toList = c :: r) := by
          show _ = _
          rw [Lib.extract_data, ← HS.out, hcr, List.take_of_length_le]
          simp; omega
        have hxs : (s.extract p s.size).size ≤ 4096 := by rw [ByteArray.size_extract]; omega
        rw [hcr] at HW
        have e9 : ((c.toNat : Int) == 9) = (c == 9) := byte_beq c 9
        have e13 : ((c.toNat : Int) == 13) = (c == 13) := byte_beq c 13
        have e32 : ((c.toNat : Int) == 32) = (c == 32) := byte_beq c 32
        have e35 : ((c.toNat : Int) == 35) = (c == 35) := byte_beq c 35
        clear hcr hlt
        by_cases hbl : isBlank c = true
        · have hx : lexeme c r = (Lx.none, 0) := lexeme_blank hbl r
          have HW2 : Hid (lexW 0 S = glue P (lexW (p + 1) (S.drop (p + 1)))) := by
            show _ = _
            rw [HW.out, lexW_none hx, HD.out 0]
          unfold isBlank at hbl
          clear HW hx
          by_cases d9 : (c == 9) = true
          · rw [d9] at e9
            clear e13 e32 e35 hbl d9
            go_wp2_with fail
            go_roundw
            case rel => exact ⟨p + 1, by omega, by go_num, P, by omega, HW2, OWN.out, hb⟩
            case measure => simp [intOf]; omega
          · have d9' : (c == 9) = false := by simpa using d9
            rw [d9'] at e9
            by_cases d13 : (c == 13) = true
            · rw [d13] at e13
              clear e32 e35 hbl d9 d9' d13
              go_wp2_with fail
              go_roundw
              case rel => exact ⟨p + 1, by omega, by go_num, P, by omega, HW2, OWN.out, hb⟩
              case measure => simp [intOf]; omega
            · have d13' : (c == 13) = false := by simpa using d13
              rw [d13'] at e13
              have d32 : (c == 32) = true := by simpa [d9', d13'] using hbl
              rw [d32] at e32
              clear e35 hbl d9 d9' d13 d13' d32
              go_wp2_with fail
              go_roundw
              case rel => exact ⟨p + 1, by omega, by go_num, P, by omega, HW2, OWN.out, hb⟩
              case measure => simp [intOf]; omega
        · have hbl' : isBlank c = false := by simpa using hbl
          have h3 : (c == 9) = false ∧ (c == 13) = false ∧ (c == 32) = false := by
            unfold isBlank at hbl'
            simp only [Bool.or_eq_false_iff] at hbl'
            exact ⟨hbl'.1.1, hbl'.1.2, hbl'.2⟩
          rw [h3.1] at e9
          rw [h3.2.1] at e13
          rw [h3.2.2] at e32
          clear hbl h3
          by_cases d35 : (c == 35) = true
          · have hc35 : c = 35 := by simpa using d35
            have hx := lexeme_hash r
            rw [← hc35] at hx
            have C1 : Hid (∀ W, Calls Tryz.prog 68 #[.string (s.extract p s.size)] W fun e w' => e = .returned (.int .i64 (((r.takeWhile notEnd).length + 1 : Nat) : Int)) ∧ w' = W) := fun W => by
              have := remark_any (s.extract p s.size) W
              rwa [HX.out, List.takeWhile_cons, if_pos (by rw [hc35]; decide), List.length_cons] at this
            have HW2 : Hid (lexW 0 S = glue P (lexW (p + 1 + (r.takeWhile notEnd).length) (S.drop (p + 1 + (r.takeWhile notEnd).length)))) := by
              show _ = _
              rw [HW.out, lexW_none hx, HD.out]
            have hle := takeWhile_le notEnd r
            obtain ⟨n, hn⟩ : ∃ n, n = (r.takeWhile notEnd).length := ⟨_, rfl⟩
            rw [← hn] at C1 HW2 hle
            rw [d35] at e35
            clear hn hx hc35 d35 HW
            go_wp2_with fail
            refine (C1.out _).mono ?_
            rintro e w1 ⟨rfl, rfl⟩
            go_wp2_with fail
            go_roundw
            case rel => exact ⟨p + 1 + n, by omega, by go_num, P, by omega, HW2, OWN.out, hb⟩
            case measure => simp [intOf]; omega
          · have d35' : (c == 35) = false := by simpa using d35
            have C1 : Hid (∀ W, Calls Tryz.prog 69 #[.string (s.extract p s.size)] W fun e w' => FirstR (lexeme c r) e ∧ Below W.heap.size W w') := fun W => first_any (s.extract p s.size) hxs c r HX.out hbl' d35' W
            rw [d35'] at e35
            clear d35
            rcases hx : lexeme c r with ⟨x, n⟩
            have HLE : n ≤ r.length := by have := lexeme_le c r; rw [hx] at this; exact this
            rcases x with e | _ | ⟨k, t, v⟩
            · have he := err_ne hx
              have HRR : Hid (R = ([], e, p)) := by
                show _ = _
                rw [HR.out, HW.out, lexW_err hx]
                rfl
              rw [hx] at C1
              clear hx HW d35'
              have hne : ((e : Int) != 0) = true := by simp; omega
              go_wp2_with fail
              refine (C1.out _).mono ?_
              rintro e1 w1 ⟨⟨k, v, m, rfl⟩, hb1⟩
              have B1 := hb.trans (hb1.mono hb.size)
              go_wp2_with (first
                | (refine wl_storeE (E := TokE) TokOk rfl _ _ rfl w1.heap.size (tv k 0 ⟨#[]⟩ v) (tv_fits _ _ _ _) rfl rfl _ (heap_new _ _ _ rfl) rfl _ (setRow_new _ _ _ _ _ rfl) ?_))
              simp only [Exit.noGoto_ret]
              go_ret3
              rw [HRR.out]
              exact ⟨_, rfl, World.ownsRow_nil _ _ _ _, B1.alloc B1.size _⟩
            · exfalso
              rcases lexeme_none hx with ⟨h1, _⟩ | ⟨h1, _⟩
              · rw [h1] at hbl'; cases hbl'
              · rw [h1] at d35'; cases d35'
            · have HW2 : Hid (lexW 0 S = glue (P ++ [⟨k, p, t, v⟩]) (lexW (p + 1 + n) (S.drop (p + 1 + n)))) := by
                show _ = _
                rw [HW.out, lexW_tok hx, HD.out, glue_glue]
              rw [hx] at C1
              have C2 : Hid (∀ W, Calls Tryz.prog 69 #[.string (s.extract p s.size)] W fun e w' => e = .returned (.tuple #[.agg (tv (k : Nat) 0 ⟨t.toArray⟩ (v : Nat)), .int .i64 ((n + 1 : Nat) : Int), .int .i64 0]) ∧ Below W.heap.size W w') := C1.out
              have HP : Hid (P.length ≤ 4096) := by show _ ≤ _; omega
              clear hx HW C1 d35' hbl' HX HD
              go_wp2_with fail
              refine (C2.out _).mono ?_
              rintro e1 w1 ⟨rfl, hb1⟩
              have B1 := hb.trans (hb1.mono hb.size)
              have OWN1 : Hid (w1.ownsRow w.heap.size 117 4 u5 P.length (gcells encT P)) := gown_below OWN.out hb1
              clear OWN hb hb1
              have z1 := B1.size
              have HNE : Hid (u5.ownBlock ≠ some w1.heap.size) := gown_ne OWN1.out (Nat.le_refl _)
              go_wp2_with (first
                | (refine wl_storeE (E := TokE) TokOk rfl _ _ rfl w1.heap.size (tv (k : Nat) 0 ⟨t.toArray⟩ (v : Nat)) (tv_fits _ _ _ _) rfl rfl _ (heap_new _ _ _ rfl) rfl _ (setRow_new _ _ _ _ _ rfl) ?_)
                | (refine wl_loadE (E := TokE) TokOk rfl _ rfl w1.heap.size 0 rfl _ _ _ (tv (k : Nat) (p : Nat) ⟨t.toArray⟩ (v : Nat)) rfl (heap_new _ _ _ rfl) (own_cells _ _) ?_)
                | (refine wl_buildE (E := TokE) TokOk rfl _ rfl (tv (k : Nat) (p : Nat) ⟨t.toArray⟩ (v : Nat)) rfl rfl ?_)
                | (at_builtin; refine of_stopT ?_))
              unfold StopT
              have a1 := heap_new (w1.alloc (.cells ((tv (k : Nat) 0 ⟨t.toArray⟩ (v : Nat)).setIfInBounds 1 (.int .i64 (p : Int))) 117)) (.cells (tv (k : Nat) (p : Nat) ⟨t.toArray⟩ (v : Nat)) 117) (w1.heap.size + 1) (by simp)
              have OWN3 : Hid (((w1.alloc (.cells ((tv (k : Nat) 0 ⟨t.toArray⟩ (v : Nat)).setIfInBounds 1 (.int .i64 (p : Int))) 117)).alloc (.cells (tv (k : Nat) (p : Nat) ⟨t.toArray⟩ (v : Nat)) 117)).ownsRow w.heap.size 117 4 u5 P.length (gcells encT P)) := (OWN1.out.alloc _).alloc _
              have B3 := (B1.alloc B1.size (.cells ((tv (k : Nat) 0 ⟨t.toArray⟩ (v : Nat)).setIfInBounds 1 (.int .i64 (p : Int))) 117)).alloc (by simp; omega) (.cells (tv (k : Nat) (p : Nat) ⟨t.toArray⟩ (v : Nat)) 117)
              refine wl_appendE (E := TokE) TokOk encT rfl _ _ rfl w.heap.size _ P (⟨k, p, t, v⟩ : Tok) (tv_fits _ _ _ _) rfl OWN3.out _ 1 rfl a1 (by have := HP.out; omega) (by simp; omega) ?_
              intro v' w2 hown2 hgr _
              have B4 : Below w.heap.size w w2 := B3.grown hgr (by simp; omega) (fun q hq => (OWN3.out.lt q hq).1)
              have OWN4 : Hid (w2.ownsRow w.heap.size 117 4 v' (P ++ [(⟨k, p, t, v⟩ : Tok)]).length (gcells encT (P ++ [(⟨k, p, t, v⟩ : Tok)]))) := hown2
              simp only [Act.put, List.setIfInBounds_toArray, List.set_cons_succ, List.set_cons_zero]
              clear hown2 hgr a1 OWN3 B3 B1 OWN1
              go_wp2_with fail
              go_roundw
              case rel => exact ⟨p + 1 + n, by omega, by go_num, P ++ [⟨k, p, t, v⟩], by simp; omega, HW2, OWN4.out, B4⟩
              case measure => simp [intOf]; omega
      · have hlt' : (s.size : Int) ≤ (p : Int) := by omega
        have HRR : Hid (R = (P, 0, 0)) := by
          show _ = _
          rw [HR.out, HW.out, List.drop_of_length_le (by omega), lexW_nil]
          simp [glue]
        clear hlt HW
        go_wp2_with fail
        simp only [Exit.noGoto_ret]
        go_ret3
        rw [HRR.out]
        exact ⟨_, rfl, OWN.out, hb⟩
end Go.Proofs.YtnbklmmampdbfaaGreatDoor
namespace Go.Proofs.YtnbklmmampdbfaaGreatDoor
open Go Go.RowKit
set_option maxRecDepth 20000

theorem lexeme_wordless {c : UInt8} {r : List UInt8} {n k v : Nat} {t : List UInt8} (h : lexeme c r = (Lx.tok k t v, n)) : k = 1 ∨ t = [] := by
  unfold lexeme at h
  repeat' split at h
  all_goals simp only [Prod.mk.injEq, Except.ok.injEq, Option.some.injEq, reduceCtorEq, false_and] at h
  all_goals first | exact .inl h.1.1.symm | exact .inr h.1.2.1.symm | skip
theorem lexW_word : ∀ (S : List UInt8) (p : Nat) (l : List Tok), lexW p S = .ok l → WordT l := by
  refine lexW_induct _ (fun p l h => ?_) (fun p c r n hx ih l h => ?_) (fun p c r n k t v hx ih l h => ?_) (fun p c r n e hx l h => ?_)
  · rw [lexW_nil] at h
    obtain rfl : [] = l := Except.ok.inj h
    intro t ht; simp at ht
  · rw [lexW_none hx] at h; exact ih l h
  · rw [lexW_tok hx] at h
    cases hy : lexW (p + 1 + n) (r.drop n) with
    | error x => rw [hy] at h; simp [glue] at h
    | ok l' =>
      rw [hy] at h
      obtain rfl : ⟨k, p, t, v⟩ :: l' = l := by simpa [glue] using h
      intro u hu
      rcases List.mem_cons.1 hu with rfl | hu
      · intro ht
        rcases lexeme_wordless hx with hk | hk
        · exact hk
        · exfalso
          have ht' : t = wDefault := ht
          rw [hk] at ht'
          cases ht'
      · exact ih l' hy u hu
  · rw [lexW_err hx] at h; cases h
/-- What a text parses to: its lines, or what is wrong with it and where. -/
def parseP (S : List UInt8) : List Raw × Nat × Nat := match parseT S with | .ok l => (l, 0, 0) | .error x => ([], x.1, x.2)
theorem parseP_lex {S : List UInt8} (h : (lexT S).2.1 ≠ 0) : parseP S = ([], (lexT S).2.1, (lexT S).2.2) := by
  unfold parseP parseT
  unfold lexT at h ⊢
  by_cases h4 : 4096 < S.length
  · rw [if_pos h4, if_pos h4]
  · rw [if_neg h4, if_neg h4]
    rw [if_neg h4] at h
    cases hx : lexW 0 S with
    | ok l => rw [hx] at h; exact absurd rfl h
    | error x => rfl
theorem parseP_ok {S : List UInt8} (h : (lexT S).2.1 = 0) : ∃ T, lexW 0 S = .ok T ∧ lexT S = (T, 0, 0) ∧ S.length ≤ 4096 ∧ parseP S = match takeL S.length (T.length + 1) [] T with | .ok l => (l, 0, 0) | .error x => ([], x.1, x.2) := by
  unfold parseP parseT
  unfold lexT at h ⊢
  by_cases h4 : 4096 < S.length
  · rw [if_pos h4] at h; exact absurd h (by decide)
  · rw [if_neg h4, if_neg h4]
    rw [if_neg h4] at h
    cases hx : lexW 0 S with
    | ok l => exact ⟨l, rfl, rfl, by omega, rfl⟩
    | error x =>
      obtain ⟨e, p⟩ := x
      rw [hx] at h
      have := lexW_error S 0 e p hx
      have h' : e = 0 := h
      omega

theorem load_one {ty : TypeId} (W : World) (ha : (isAgg ty).run Tryz.prog W = .ok false W) (ad : Addr) (v : Value) (h : W.cell? ad = some v) : (Instr.loadAt ty (.pointer (some ad))).run Tryz.prog W = .ok v W := by
  simp [Instr.loadAt, Instr.sureAddr, loadVar, Sem.run_bind, ha, go_sem, h]
theorem store_one {ty : TypeId} (hsz : ∀ W, (sizeOf ty).run Tryz.prog W = .ok 1 W) (W : World) (ad : Addr) (v u : Value) (hv : (∃ o n c, v = .slice o n c) ∨ (∃ k z, v = .int k z)) (h : W.cell? ad = some u) (hz : W.frozen? ad = false) : (Instr.storeAt ty (.pointer (some ad)) v).run Tryz.prog W = .ok () (W.setCell ad v) := by
  rcases hv with ⟨o, n, c, rfl⟩ | ⟨k, z, rfl⟩
  · simp [Instr.storeAt, Instr.sureAddr, storeVar, Sem.run_bind, hsz, go_sem, h, hz]
  · simp [Instr.storeAt, Instr.sureAddr, storeVar, Sem.run_bind, hsz, go_sem, h, hz]
/-- The three results as they lie in memory, one cell each. -/
structure Res3 (w : World) (b0 : Nat) (x0 x1 x2 : Value) : Prop where
  k0 : w.heap[b0]? = some (.cells #[x0] 55 (0, 0))
  k1 : w.heap[b0 + 1]? = some (.cells #[x1] 25 (0, 0))
  k2 : w.heap[b0 + 1 + 1]? = some (.cells #[x2] 3 (0, 0))
theorem Res3.set0 {w : World} {b0 : Nat} {x0 x1 x2 : Value} (h : Res3 w b0 x0 x1 x2) (y : Value) : Res3 (w.setCell ⟨b0, 0, none⟩ y) b0 y x1 x2 := ⟨tc_row h.k0 y, (tc_far (by omega) y).trans h.k1, (tc_far (by omega) y).trans h.k2⟩
theorem Res3.set1 {w : World} {b0 : Nat} {x0 x1 x2 : Value} (h : Res3 w b0 x0 x1 x2) (y : Value) : Res3 (w.setCell ⟨b0 + 1, 0, none⟩ y) b0 x0 y x2 := ⟨(tc_far (by omega) y).trans h.k0, tc_row h.k1 y, (tc_far (by omega) y).trans h.k2⟩
theorem Res3.set2 {w : World} {b0 : Nat} {x0 x1 x2 : Value} (h : Res3 w b0 x0 x1 x2) (y : Value) : Res3 (w.setCell ⟨b0 + 1 + 1, 0, none⟩ y) b0 x0 x1 y := ⟨(tc_far (by omega) y).trans h.k0, (tc_far (by omega) y).trans h.k1, tc_row h.k2 y⟩
theorem Res3.far {w : World} {b0 : Nat} {x0 x1 x2 : Value} (h : Res3 w b0 x0 x1 x2) {w' : World} (hb : ∀ k, k = b0 ∨ k = b0 + 1 ∨ k = b0 + 1 + 1 → w'.heap[k]? = w.heap[k]?) : Res3 w' b0 x0 x1 x2 := ⟨(hb _ (.inl rfl)).trans h.k0, (hb _ (.inr (.inl rfl))).trans h.k1, (hb _ (.inr (.inr rfl))).trans h.k2⟩
theorem wl_storeX {ops : Array Oper} {rest : List Oper} {o : Oper} {a : Act} {w : World} {Q : Exit → Act → World → Prop} (hgd : o.guard = none) (x y : Operand) (ho : o.op = .store 84 x y)
    (g : Nat) (c q : Int) (hx : a.eval x = .pointer (some ⟨g, 0, none⟩)) (hy : a.eval y = .agg #[.int .i64 c, .int .i64 q]) (old : Array Value) (hg : w.heap[g]? = some (.cells old 84 (0, 0))) (hold : old.size = 2) (w' : World) (hw' : w.setRow g #[.int .i64 c, .int .i64 q] = w')
    (h : wpList Tryz.prog ops Q rest (a.put o.dst undef) w') : wpList Tryz.prog ops Q (o :: rest) a w :=
  wpList_store_row hgd 84 x y ho g _ hx hy 84 old hg (by kernel_rfl) hold (by simp [Value.oneCell']) (by rw [hw']; exact h)

set_option maxHeartbeats 2000000 in
theorem catch_fault (b0 : Nat) (c q : Nat) (x0 x1 x2 : Value) (w : World) (k : Res3 w b0 x0 x1 x2) (hb0 : b0 + 2 < w.heap.size) (B : Nat) (hB : B ≤ b0) :
    CallsD Tryz.prog 43 #[.pointer (some ⟨b0, 0, none⟩), .pointer (some ⟨b0 + 1, 0, none⟩), .pointer (some ⟨b0 + 1 + 1, 0, none⟩)] (.panicking [{ v := faultV c q, recovered := false }]) w fun e u' w' =>
      e = .returned (.tuple #[]) ∧ u' = .panicking [{ v := faultV c q, recovered := true }] ∧ Res3 w' b0 (.slice none 0 0) (.int .i64 (c : Int)) (.int .i64 (q : Int)) ∧ Below B w w' := by
  unfold faultV
  refine callsD_of_wpS Tryz.func43 rfl fun c₀ cs hu => ?_
  apply wpS_seq
  apply wpS_region
  simp [wpOpsS, go_sem, recoverD, hu, Tryz.ntmps43, Exit.thenS]
  refine wpS_of_wp ?_
  have hta : ∀ W, (Instr.typeAssert (.iface 84 (.agg #[.int .i64 (c : Int), .int .i64 (q : Int)])) 20 84 false).run Tryz.prog W = .ok (.agg #[.int .i64 (c : Int), .int .i64 (q : Int)]) W := fun W => by kernel_rfl
  have hrep : Array.replicate 11 undef = #[undef, undef, undef, undef, undef, undef, undef, undef, undef, undef, undef] := rfl
  simp only [hrep, List.setIfInBounds_toArray, List.set_cons_succ, List.set_cons_zero, List.append_toArray, List.cons_append, List.nil_append]
  clear hrep
  go_wp2_with (first
    | (refine wl_storeX rfl _ _ rfl w.heap.size (c : Int) (q : Int) rfl rfl _ (heap_new _ _ _ rfl) rfl _ (setRow_new _ _ _ _ _ rfl) ?_))
  obtain ⟨wa, hwa⟩ : ∃ wa, wa = w.alloc (.cells #[.int .i64 (c : Int), .int .i64 (q : Int)] 84) := ⟨_, rfl⟩
  rw [← hwa]
  obtain ⟨F, hF⟩ : ∃ F, F = w.heap.size := ⟨_, rfl⟩
  rw [← hF]
  have kF : wa.heap[F]? = some (.cells #[.int .i64 (c : Int), .int .i64 (q : Int)] 84 (0, 0)) := by rw [hwa, hF]; exact heap_new _ _ _ rfl
  have ka : Res3 wa b0 x0 x1 x2 := k.far fun j hj => by
    rw [hwa]
    have hlt : j < w.heap.size := by omega
    exact (heap_past w _ _ _ (Array.getElem?_eq_getElem hlt)).trans (Array.getElem?_eq_getElem hlt).symm
  have ba : Below B w wa := by rw [hwa]; exact (Below.refl _ _).alloc (by omega) _
  have hFb : F ≠ b0 ∧ F ≠ b0 + 1 ∧ F ≠ b0 + 1 + 1 := by omega
  clear hwa hF k hb0
  refine region_cut (fun a a' w' => a'.defers = [] ∧ Res3 w' b0 (.slice none 0 0) (.int .i64 (c : Int)) (.int .i64 (q : Int)) ∧ Below B w w') ?_ ?_
  · refine region_beginS (fun w' => w'.heap[F]? = some (.cells #[.int .i64 (c : Int), .int .i64 (q : Int)] 84 (0, 0))) 7 rfl (by kernel_rfl) ?_
    have i24 : ∀ W, (isAgg 25).run Tryz.prog W = .ok false W := fun W => by kernel_rfl
    have i3 : ∀ W, (isAgg 3).run Tryz.prog W = .ok false W := fun W => by kernel_rfl
    have fa0 : ∀ W, (Instr.fieldAt 84 (.pointer (some ⟨F, 0, none⟩)) 0).run Tryz.prog W = .ok (.pointer (some ⟨F, 0, none⟩)) W := fun W => by simp [go_sem]
    have fa1 : ∀ W, (Instr.fieldAt 84 (.pointer (some ⟨F, 0, none⟩)) 1).run Tryz.prog W = .ok (.pointer (some ⟨F, 1, none⟩)) W := fun W => by simp [go_sem]
    refine wpAnyH_take (i := 0) (v := .pointer (some ⟨F, 0, none⟩)) rfl (by kernel_rfl) (by kernel_rfl) (by kernel_rfl) (fun _ _ _ h => absurd h.1 (by simp)) (.inl ⟨rfl, fun W _ => run_fieldOp rfl _ _ _ (fa0 W)⟩) kF ?_
    refine wpAnyH_take (i := 1) (v := .int .i64 (c : Int)) rfl (by kernel_rfl) (by kernel_rfl) (by kernel_rfl) (fun _ _ _ h => absurd h.1 (by simp)) (.inl ⟨rfl, fun W hW => run_loadOp rfl _ _ _ _ rfl (load_one W (i24 W) _ _ (by rw [cell_of_row _ _ _ _ _ _ hW]; rfl))⟩) kF ?_
    refine wpAnyH_take (i := 2) (v := .pointer (some ⟨F, 1, none⟩)) rfl (by kernel_rfl) (by kernel_rfl) (by kernel_rfl) (fun _ _ _ h => absurd h.1 (by simp)) (.inl ⟨rfl, fun W _ => run_fieldOp rfl _ _ _ (fa1 W)⟩) kF ?_
    refine wpAnyH_take (i := 3) (v := .int .i64 (q : Int)) rfl (by kernel_rfl) (by kernel_rfl) (by kernel_rfl) (fun _ _ _ h => absurd h.1 (by simp)) (.inl ⟨rfl, fun W hW => run_loadOp rfl _ _ _ _ rfl (load_one W (i3 W) _ _ (by rw [cell_of_row _ _ _ _ _ _ hW]; rfl))⟩) kF ?_
    have kd : Res3 wa.drew b0 x0 x1 x2 := ⟨ka.k0, ka.k1, ka.k2⟩
    have kFd : wa.drew.heap[F]? = some (.cells #[.int .i64 (c : Int), .int .i64 (q : Int)] 84 (0, 0)) := kF
    have bd : Below B w wa.drew := ba.drew
    refine wpAnyH_all (rs := [4]) (by kernel_rfl) (by decide) ?_
    intro i hi
    obtain rfl := List.mem_singleton.1 hi
    refine wpOp_skip0 rfl rfl (run_storeOp rfl _ _ _ (.pointer (some ⟨b0, 0, none⟩)) (.slice none 0 0) rfl rfl (store_one (fun W => Tryz.sizeOf55 W) _ _ _ x0 (.inl ⟨_, _, _, rfl⟩) (by rw [cell_of_row _ _ _ _ _ _ kd.k0]; rfl) (tc_frozen kd.k0 rfl))) rfl ⟨(tc_far (by omega) _).trans kFd, ?_⟩
    have k4 := kd.set0 (.slice none 0 0)
    have kF4 := (tc_far (w := wa.drew) (k := 0) (Ne.symm hFb.1) (.slice none 0 0)).trans kFd
    have b4 := tc_below bd (g := b0) hB 0 (.slice none 0 0)
    refine wpAnyH_all (rs := [5]) (by kernel_rfl) (by decide) ?_
    intro i hi
    obtain rfl := List.mem_singleton.1 hi
    refine wpOp_skip0 rfl rfl (run_storeOp rfl _ _ _ (.pointer (some ⟨b0 + 1, 0, none⟩)) (.int .i64 (c : Int)) rfl rfl (store_one (fun W => Tryz.sizeOf25 W) _ _ _ x1 (.inr ⟨_, _, rfl⟩) (by rw [cell_of_row _ _ _ _ _ _ k4.k1]; rfl) (tc_frozen k4.k1 rfl))) rfl ⟨(tc_far (by omega) _).trans kF4, ?_⟩
    have k5 := k4.set1 (.int .i64 (c : Int))
    have kF5 := (tc_far (w := wa.drew.setCell ⟨b0, 0, none⟩ (.slice none 0 0)) (k := 0) (Ne.symm hFb.2.1) (.int .i64 (c : Int))).trans kF4
    have b5 := tc_below b4 (g := b0 + 1) (by omega) 0 (.int .i64 (c : Int))
    refine wpAnyH_all (rs := [6]) (by kernel_rfl) (by decide) ?_
    intro i hi
    obtain rfl := List.mem_singleton.1 hi
    refine wpOp_skip0 rfl rfl (run_storeOp rfl _ _ _ (.pointer (some ⟨b0 + 1 + 1, 0, none⟩)) (.int .i64 (q : Int)) rfl rfl (store_one (fun W => Tryz.sizeOf3 W) _ _ _ x2 (.inr ⟨_, _, rfl⟩) (by rw [cell_of_row _ _ _ _ _ _ k5.k2]; rfl) (tc_frozen k5.k2 rfl))) rfl ⟨(tc_far (by omega) _).trans kF5, ?_⟩
    refine wpAnyH_done (by kernel_rfl) ?_ _
    exact ⟨rfl, rfl, k5.set2 _, tc_below b5 (by omega) 0 _⟩
  rintro a' w' ⟨hdf, k6, b6⟩
  go_wp2_with fail
  exact ⟨hdf, _, rfl, .tuple #[], by simp [results, Tryz.results43], rfl, rfl, k6, b6⟩
theorem catch_idle (b0 b1 b2 : Nat) (w : World) :
    CallsD Tryz.prog 43 #[.pointer (some ⟨b0, 0, none⟩), .pointer (some ⟨b1, 0, none⟩), .pointer (some ⟨b2, 0, none⟩)] .returning w fun e u' w' => e = .returned (.tuple #[]) ∧ u' = .returning ∧ w' = w := by
  refine callsD_of_wpS Tryz.func43 rfl fun c₀ cs hu => ?_
  apply wpS_seq
  apply wpS_region
  simp [wpOpsS, go_sem, recoverD, hu, Tryz.ntmps43, Exit.thenS]
  refine wpS_of_wp ?_
  have hrep : Array.replicate 11 undef = #[undef, undef, undef, undef, undef, undef, undef, undef, undef, undef, undef] := rfl
  simp only [hrep, List.setIfInBounds_toArray, List.set_cons_succ, List.set_cons_zero, List.append_toArray, List.cons_append, List.nil_append]
  clear hrep
  go_wp2_with fail
  cases c₀
  simp_all [bodyPostS, results, Tryz.results43]
theorem res3_run {tmps : Array Value} {fn : Func} (hr : fn.results = #[.cell 2 55, .cell 3 25, .cell 4 3]) {w : World} {b0 : Nat} {x0 x1 x2 : Value} (h : Res3 w b0 x0 x1 x2) (h2 : tmps.getD 2 undef = .pointer (some ⟨b0, 0, none⟩)) (h3 : tmps.getD 3 undef = .pointer (some ⟨b0 + 1, 0, none⟩)) (h4 : tmps.getD 4 undef = .pointer (some ⟨b0 + 1 + 1, 0, none⟩)) :
    (results fn tmps).run Tryz.prog w = .ok (.tuple #[x0, x1, x2]) w := by
  rw [Array.getD_eq_getD_getElem?] at h2 h3 h4
  have a0 : (isAgg 55).run Tryz.prog w = .ok false w := by kernel_rfl
  have c0 : w.cell? ⟨b0, 0, none⟩ = some x0 := by rw [cell_of_row _ _ _ _ _ _ h.k0]; rfl
  have c1 : w.cell? ⟨b0 + 1, 0, none⟩ = some x1 := by rw [cell_of_row _ _ _ _ _ _ h.k1]; rfl
  have c2 : w.cell? ⟨b0 + 1 + 1, 0, none⟩ = some x2 := by rw [cell_of_row _ _ _ _ _ _ h.k2]; rfl
  simp [results, hr, h2, h3, h4, asAddr, loadVar, a0, c0, c1, c2, go_sem]
theorem raws_set {w : World} {B : Nat} {L : List Raw} {v : Value} (h : RawsOwn B w L v) {p i : Nat} {cs : Array Value} {t : TypeId} {fr : Nat × Nat} (hp : w.heap[p]? = some (.cells cs t fr)) (ht : 92 ≠ t ∧ 129 ≠ t ∧ 89 ≠ t) (y : Value) : RawsOwn B (w.setCell ⟨p, i, none⟩ y) L v := by
  obtain ⟨P, h1, h2, h3⟩ := h
  refine ⟨P, h1, own_set h2 hp ht.1 y, fun q hq => ?_⟩
  obtain ⟨P', g1, g2, g3⟩ := h3 q hq
  exact ⟨P', g1, own_set g2 hp ht.2.1 y, fun r hr => own_set (g3 r hr) hp ht.2.2 y⟩
theorem raws_base {w : World} {B B' : Nat} {L : List Raw} {v : Value} (h : RawsOwn B w L v) (hB : B' ≤ B) : RawsOwn B' w L v := by
  obtain ⟨P, h1, h2, h3⟩ := h
  exact ⟨P, h1, gown_base h2 hB, fun q hq => clas_base (h3 q hq) hB⟩

theorem wl_storeRd {ops : Array Oper} {rest : List Oper} {o : Oper} {a : Act} {w : World} {Q : Exit → Act → World → Prop} (hgd : o.guard = none) (x y : Operand) (ho : o.op = .store 86 x y)
    (g : Nat) (so : Option Addr) (sn sc : Nat) (q : Int) (hx : a.eval x = .pointer (some ⟨g, 0, none⟩)) (hy : a.eval y = .agg #[.slice so sn sc, .int .i64 q]) (old : Array Value) (hg : w.heap[g]? = some (.cells old 86 (0, 0))) (hold : old.size = 2) (w' : World) (hw' : w.setRow g #[.slice so sn sc, .int .i64 q] = w')
    (h : wpList Tryz.prog ops Q rest (a.put o.dst undef) w') : wpList Tryz.prog ops Q (o :: rest) a w :=
  wpList_store_row hgd 86 x y ho g _ hx hy 86 old hg (by kernel_rfl) hold (by simp [Value.oneCell']) (by rw [hw']; exact h)

set_option maxHeartbeats 8000000 in
theorem parse_any (s : ByteArray) (hs : s.size ≤ maxLen) (w : World) :
    Calls Tryz.prog 24 #[.string s] w fun e w' => ∃ v, e = .returned (.tuple #[v, .int .i64 ((parseP s.data.toList).2.1 : Nat), .int .i64 ((parseP s.data.toList).2.2 : Nat)]) ∧ RawsOwn w.heap.size w' (parseP s.data.toList).1 v ∧ Below w.heap.size w w' := by
  have C1 : Hid (∀ W, Calls Tryz.prog 42 #[.string s] W fun e w' => ∃ u, e = .returned (.tuple #[u, .int .i64 ((lexT s.data.toList).2.1 : Nat), .int .i64 ((lexT s.data.toList).2.2 : Nat)]) ∧ w'.ownsRow W.heap.size 117 4 u (lexT s.data.toList).1.length (gcells encT (lexT s.data.toList).1) ∧ Below W.heap.size W w') := tokens_any s hs
  have hmf : ∀ (fn : Fn) (first cap : Array Value) (w : World), (Instr.makeFunc fn first cap).run Tryz.prog w = .ok (.func fn first cap) w := fun _ _ _ _ => rfl
  obtain ⟨S, hS⟩ : ∃ S, S = s.data.toList := ⟨_, rfl⟩
  have hlen : S.length = s.size := by rw [hS]; exact (Lib.size_eq s).symm
  rw [← hS] at C1 ⊢
  have HLEN : Hid (S.length = s.size) := hlen
  clear hS hlen hs
  by_cases hE : (lexT S).2.1 = 0
  · obtain ⟨T, hT, hL, h4, hP⟩ := parseP_ok hE
    rw [hL] at C1
    have C2 : Hid (∀ W, Calls Tryz.prog 42 #[.string s] W fun e w' => ∃ u, e = .returned (.tuple #[u, .int .i64 0, .int .i64 0]) ∧ w'.ownsRow W.heap.size 117 4 u T.length (gcells encT T) ∧ Below W.heap.size W w') := C1.out
    have HTl : Hid (T.length ≤ 5000) := by have := lexW_len hT; show _ ≤ _; omega
    have HTW : Hid (WordT T) := lexW_word S 0 T hT
    have HP : Hid (parseP S = match takeL S.length (T.length + 1) [] T with | .ok l => (l, 0, 0) | .error x => ([], x.1, x.2)) := hP
    obtain ⟨R, hR⟩ : ∃ R, R = parseP S := ⟨_, rfl⟩
    rw [← hR] at HP ⊢
    clear hE hT hL hP hR C1 h4
    go_enter_defers Tryz.func24, Tryz.ntmps24
    go_wp2_with fail
    refine (C2.out _).mono ?_
    rintro e w1 ⟨u, rfl, hown1, hb1⟩
    obtain ⟨o, cap, rfl⟩ := gown_slice hown1
    have B1 : Below w.heap.size w w1 := (((((Below.refl _ _).alloc (Nat.le_refl _) _).alloc (by simp) _).alloc (by simp; omega) _)).trans (hb1.mono (by simp; omega))
    have z1 : w.heap.size + 3 ≤ w1.heap.size := by have := hb1.size; simp at this; omega
    have K1 : Res3 w1 w.heap.size (.slice none 0 0) (.int .i64 0) (.int .i64 0) :=
      ⟨(hb1.block _ (by simp; omega)).trans (heap_past _ _ _ _ (heap_past _ _ _ _ (heap_new _ _ _ rfl))), (hb1.block _ (by simp)).trans (heap_past _ _ _ _ (heap_new _ _ _ (by simp))), (hb1.block _ (by simp)).trans (heap_new _ _ _ (by simp))⟩
    have K2 := K1.set1 (.int .i64 0)
    have K3 := K2.set2 (.int .i64 0)
    have c1 : w1.cell? ⟨w.heap.size + 1, 0, none⟩ = some (.int .i64 0) := by rw [cell_of_row _ _ _ _ _ _ K1.k1]; rfl
    have f1 : w1.frozen? ⟨w.heap.size + 1, 0, none⟩ = false := tc_frozen K1.k1 rfl
    have c2 : (w1.setCell ⟨w.heap.size + 1, 0, none⟩ (.int .i64 0)).cell? ⟨w.heap.size + 1 + 1, 0, none⟩ = some (.int .i64 0) := by rw [cell_of_row _ _ _ _ _ _ K2.k2]; rfl
    have f2 : (w1.setCell ⟨w.heap.size + 1, 0, none⟩ (.int .i64 0)).frozen? ⟨w.heap.size + 1 + 1, 0, none⟩ = false := tc_frozen K2.k2 rfl
    have c3 : ((w1.setCell ⟨w.heap.size + 1, 0, none⟩ (.int .i64 0)).setCell ⟨w.heap.size + 1 + 1, 0, none⟩ (.int .i64 0)).cell? ⟨w.heap.size + 1, 0, none⟩ = some (.int .i64 0) := by rw [cell_of_row _ _ _ _ _ _ K3.k1]; rfl
    have B3 : Below w.heap.size w ((w1.setCell ⟨w.heap.size + 1, 0, none⟩ (.int .i64 0)).setCell ⟨w.heap.size + 1 + 1, 0, none⟩ (.int .i64 0)) := tc_below (tc_below B1 (by omega) _ _) (by omega) _ _
    have G3 : GSl TokE encT ((w1.setCell ⟨w.heap.size + 1, 0, none⟩ (.int .i64 0)).setCell ⟨w.heap.size + 1 + 1, 0, none⟩ (.int .i64 0)) (.slice o T.length cap) T := gsl_of (E := TokE) (own_set (own_set hown1 K1.k1 (by decide) _) K2.k2 (by decide) _) fun c _ => rfl
    have HK : Hid (_ ∧ _ ∧ _) := ⟨K3, B3, G3⟩
    have z3 : ((w1.setCell ⟨w.heap.size + 1, 0, none⟩ (.int .i64 0)).setCell ⟨w.heap.size + 1 + 1, 0, none⟩ (.int .i64 0)).heap.size = w1.heap.size := by rw [tc_size, tc_size]
    obtain ⟨w2, hw2⟩ : ∃ w2, w2 = ((w1.setCell ⟨w.heap.size + 1, 0, none⟩ (.int .i64 0)).setCell ⟨w.heap.size + 1 + 1, 0, none⟩ (.int .i64 0)) := ⟨_, rfl⟩
    rw [← hw2] at HK c3 z3
    have HW2 : Hid (w2 = ((w1.setCell ⟨w.heap.size + 1, 0, none⟩ (.int .i64 0)).setCell ⟨w.heap.size + 1 + 1, 0, none⟩ (.int .i64 0))) := hw2
    have c3' : ((w1.setCell ⟨w.heap.size + 1, 0, none⟩ (.int .i64 0)).setCell ⟨w.heap.size + 1 + 1, 0, none⟩ (.int .i64 0)).cell? ⟨w.heap.size + 1, 0, none⟩ = some (.int .i64 0) := by rw [← hw2]; exact c3
    have ZZ : Hid (w2.heap.size = w1.heap.size) := z3
    clear hb1 hown1 B1 K1 K2 K3 B3 G3 hw2 c3 z3
    go_wp2_with (first
      | (refine wl_storeRd rfl _ _ rfl _ o T.length cap (s.size : Int) rfl rfl _ (heap_new _ _ _ rfl) rfl _ (setRow_new _ _ _ _ _ rfl) ?_))
    rw [← HW2.out]
    have hz := ZZ.out
    have RD : Rd w2 (w2.alloc (.cells #[.slice o T.length cap, .int .i64 (s.size : Int)] 86)) w1.heap.size S.length T :=
      ⟨(Below.refl _ _).alloc (Nat.le_refl _) _, by omega, .slice o T.length cap, by rw [HLEN.out]; exact heap_new _ _ _ (by omega), HK.out.2.2⟩
    have HZ : Hid (w2.heap.size = w1.heap.size) := hz
    have z2 : w1.heap.size ≤ w2.heap.size := by omega
    refine (lines_any w2 _ w1.heap.size S.length T HTl.out HTW.out RD).mono ?_
    clear RD hz c1 f1 c2 f2 c3'
    cases hA : takeL S.length (T.length + 1) [] T with
    | error x =>
      obtain ⟨c, q⟩ := x
      have HR : Hid (R = ([], c, q)) := by show _ = _; rw [HP.out, hA]
      clear hA
      rintro e w5 ⟨hg5, rfl⟩
      have z5 := hg5.size
      rw [World.size_alloc] at z5
      have K5 : Res3 w5 w.heap.size (.slice none 0 0) (.int .i64 0) (.int .i64 0) := HK.out.1.far fun j hj => by
        have hlt : j < w2.heap.size := by omega
        exact (hg5.block j (by rw [World.size_alloc]; omega) (by simp; omega)).trans ((heap_past w2 _ _ _ (Array.getElem?_eq_getElem hlt)).trans (Array.getElem?_eq_getElem hlt).symm)
      have B5 : Below w.heap.size w w5 := ⟨hg5.os.trans HK.out.2.1.os, hg5.tape.trans HK.out.2.1.tape, hg5.output.trans HK.out.2.1.output, by omega, fun j hj => by
        have hlt : j < w2.heap.size := by omega
        exact ((hg5.block j (by rw [World.size_alloc]; omega) (by simp; omega)).trans ((heap_past w2 _ _ _ (Array.getElem?_eq_getElem hlt)).trans (Array.getElem?_eq_getElem hlt).symm)).trans (HK.out.2.1.block j hj)⟩
      have HK5 : Hid (_ ∧ _) := ⟨K5, B5⟩
      clear hg5 K5 B5
      go_wp2_with fail
      refine leaves_cons (f := 43) (args := #[.pointer (some ⟨w.heap.size, 0, none⟩), .pointer (some ⟨w.heap.size + 1, 0, none⟩), .pointer (some ⟨w.heap.size + 1 + 1, 0, none⟩)]) (by simp) (by simp [go_sem]) ?_
      refine (catch_fault w.heap.size c q _ _ _ w5 HK5.out.1 (by omega) w.heap.size (Nat.le_refl _)).mono ?_
      rintro e u' w6 ⟨rfl, rfl, K6, B6⟩
      refine ⟨_, res3_run rfl K6 rfl rfl rfl, .slice none 0 0, ?_, ?_, HK5.out.2.trans B6⟩
      · rw [HR.out]
      · rw [HR.out]
        exact NOwn.nil _ _ _ _ _
    | ok l =>
      have HR : Hid (R = (l, 0, 0)) := by show _ = _; rw [HP.out, hA]
      clear hA
      rintro e w5 ⟨hg5, ⟨v, rfl, hraw⟩, _⟩
      obtain ⟨vo, vc, rfl⟩ : ∃ o c, v = .slice o l.length c := by
        obtain ⟨P, hP, hP2, _⟩ := hraw
        obtain ⟨o, cap, e⟩ := gown_slice hP2
        exact ⟨o, cap, by rw [e, ← hP, List.length_map]⟩
      have z5 := hg5.size
      rw [World.size_alloc] at z5
      have K5 : Res3 w5 w.heap.size (.slice none 0 0) (.int .i64 0) (.int .i64 0) := HK.out.1.far fun j hj => by
        have hlt : j < w2.heap.size := by omega
        exact (hg5.block j (by rw [World.size_alloc]; omega) (by simp; omega)).trans ((heap_past w2 _ _ _ (Array.getElem?_eq_getElem hlt)).trans (Array.getElem?_eq_getElem hlt).symm)
      have B5 : Below w.heap.size w w5 := ⟨hg5.os.trans HK.out.2.1.os, hg5.tape.trans HK.out.2.1.tape, hg5.output.trans HK.out.2.1.output, by omega, fun j hj => by
        have hlt : j < w2.heap.size := by omega
        exact ((hg5.block j (by rw [World.size_alloc]; omega) (by simp; omega)).trans ((heap_past w2 _ _ _ (Array.getElem?_eq_getElem hlt)).trans (Array.getElem?_eq_getElem hlt).symm)).trans (HK.out.2.1.block j hj)⟩
      have K6 := K5.set0 (.slice vo l.length vc)
      have K7 := K6.set1 (.int .i64 0)
      have K8 := K7.set2 (.int .i64 0)
      have hraw' : RawsOwn w.heap.size w5 l (.slice vo l.length vc) := raws_base hraw (by rw [World.size_alloc]; omega)
      have O8 := raws_set (raws_set (raws_set hraw' K5.k0 (by decide) (i := 0) (.slice vo l.length vc)) K6.k1 (by decide) (i := 0) (.int .i64 0)) K7.k2 (by decide) (i := 0) (.int .i64 0)
      have B8 := tc_below (tc_below (tc_below B5 (Nat.le_refl _) 0 (.slice vo l.length vc)) (g := w.heap.size + 1) (by omega) 0 (.int .i64 0)) (g := w.heap.size + 1 + 1) (by omega) 0 (.int .i64 0)
      have c0 : w5.cell? ⟨w.heap.size, 0, none⟩ = some (.slice none 0 0) := by rw [cell_of_row _ _ _ _ _ _ K5.k0]; rfl
      have f0 : w5.frozen? ⟨w.heap.size, 0, none⟩ = false := tc_frozen K5.k0 rfl
      have c1 : (w5.setCell ⟨w.heap.size, 0, none⟩ (.slice vo l.length vc)).cell? ⟨w.heap.size + 1, 0, none⟩ = some (.int .i64 0) := by rw [cell_of_row _ _ _ _ _ _ K6.k1]; rfl
      have f1 : (w5.setCell ⟨w.heap.size, 0, none⟩ (.slice vo l.length vc)).frozen? ⟨w.heap.size + 1, 0, none⟩ = false := tc_frozen K6.k1 rfl
      have c2 : ((w5.setCell ⟨w.heap.size, 0, none⟩ (.slice vo l.length vc)).setCell ⟨w.heap.size + 1, 0, none⟩ (.int .i64 0)).cell? ⟨w.heap.size + 1 + 1, 0, none⟩ = some (.int .i64 0) := by rw [cell_of_row _ _ _ _ _ _ K7.k2]; rfl
      have f2 : ((w5.setCell ⟨w.heap.size, 0, none⟩ (.slice vo l.length vc)).setCell ⟨w.heap.size + 1, 0, none⟩ (.int .i64 0)).frozen? ⟨w.heap.size + 1 + 1, 0, none⟩ = false := tc_frozen K7.k2 rfl
      have HK8 : Hid (_ ∧ _ ∧ _) := ⟨K8, O8, B8⟩
      clear hg5 K5 B5 K6 K7 K8 O8 B8 hraw hraw'
      go_wp2_with fail
      refine leaves_cons (f := 43) (args := #[.pointer (some ⟨w.heap.size, 0, none⟩), .pointer (some ⟨w.heap.size + 1, 0, none⟩), .pointer (some ⟨w.heap.size + 1 + 1, 0, none⟩)]) (by simp) (by simp [go_sem]) ?_
      refine (catch_idle w.heap.size (w.heap.size + 1) (w.heap.size + 1 + 1) _).mono ?_
      rintro e u' w6 ⟨rfl, rfl, rfl⟩
      refine ⟨_, res3_run rfl HK8.out.1 rfl rfl rfl, .slice vo l.length vc, ?_, ?_, HK8.out.2.2⟩
      · rw [HR.out]
        rfl
      · rw [HR.out]
        exact HK8.out.2.1
  · have HP : Hid (parseP S = ([], (lexT S).2.1, (lexT S).2.2)) := parseP_lex hE
    obtain ⟨R, hR⟩ : ∃ R, R = parseP S := ⟨_, rfl⟩
    rw [← hR] at HP ⊢
    obtain ⟨⟨L, E, A⟩, hL⟩ : ∃ x, x = lexT S := ⟨_, rfl⟩
    rw [← hL] at C1 HP hE
    simp only at C1 HP hE
    have hne : ((E : Int) != 0) = true := by simp; omega
    clear hE hL hR
    go_enter_defers Tryz.func24, Tryz.ntmps24
    go_wp2_with fail
    refine (C1.out _).mono ?_
    rintro e w1 ⟨u, rfl, -, hb1⟩
    have B1 : Below w.heap.size w w1 := (((((Below.refl _ _).alloc (Nat.le_refl _) _).alloc (by simp) _).alloc (by simp; omega) _)).trans (hb1.mono (by simp; omega))
    have z1 : w.heap.size + 3 ≤ w1.heap.size := by have := hb1.size; simp at this; omega
    have K1 : Res3 w1 w.heap.size (.slice none 0 0) (.int .i64 0) (.int .i64 0) :=
      ⟨(hb1.block _ (by simp; omega)).trans (heap_past _ _ _ _ (heap_past _ _ _ _ (heap_new _ _ _ rfl))), (hb1.block _ (by simp)).trans (heap_past _ _ _ _ (heap_new _ _ _ (by simp))), (hb1.block _ (by simp)).trans (heap_new _ _ _ (by simp))⟩
    have K2 := K1.set1 (.int .i64 (E : Int))
    have K3 := K2.set2 (.int .i64 (A : Int))
    have c1 : w1.cell? ⟨w.heap.size + 1, 0, none⟩ = some (.int .i64 0) := by rw [cell_of_row _ _ _ _ _ _ K1.k1]; rfl
    have f1 : w1.frozen? ⟨w.heap.size + 1, 0, none⟩ = false := tc_frozen K1.k1 rfl
    have c2 : (w1.setCell ⟨w.heap.size + 1, 0, none⟩ (.int .i64 (E : Int))).cell? ⟨w.heap.size + 1 + 1, 0, none⟩ = some (.int .i64 0) := by rw [cell_of_row _ _ _ _ _ _ K2.k2]; rfl
    have f2 : (w1.setCell ⟨w.heap.size + 1, 0, none⟩ (.int .i64 (E : Int))).frozen? ⟨w.heap.size + 1 + 1, 0, none⟩ = false := tc_frozen K2.k2 rfl
    have c3 : ((w1.setCell ⟨w.heap.size + 1, 0, none⟩ (.int .i64 (E : Int))).setCell ⟨w.heap.size + 1 + 1, 0, none⟩ (.int .i64 (A : Int))).cell? ⟨w.heap.size + 1, 0, none⟩ = some (.int .i64 (E : Int)) := by rw [cell_of_row _ _ _ _ _ _ K3.k1]; rfl
    have B3 : Below w.heap.size w ((w1.setCell ⟨w.heap.size + 1, 0, none⟩ (.int .i64 (E : Int))).setCell ⟨w.heap.size + 1 + 1, 0, none⟩ (.int .i64 (A : Int))) := tc_below (tc_below B1 (by omega) _ _) (by omega) _ _
    have HK : Hid (_ ∧ _) := ⟨K3, B3⟩
    clear hb1 B1 K1 K2 K3 B3
    go_wp2_with fail
    obtain ⟨wa, hwa⟩ : ∃ wa, wa = ((w1.setCell ⟨w.heap.size + 1, 0, none⟩ (.int .i64 (E : Int))).setCell ⟨w.heap.size + 1 + 1, 0, none⟩ (.int .i64 (A : Int))) := ⟨_, rfl⟩
    rw [← hwa] at HK ⊢
    clear hwa c1 f1 c2 f2 c3
    refine region_cut (fun a a' w' => (∃ y z, a' = (a.put (some 15) y).put (some 16) z) ∧ Res3 w' w.heap.size (.slice none 0 0) (.int .i64 (E : Int)) (.int .i64 (A : Int)) ∧ Below w.heap.size w w') ?_ ?_
    · refine region_beginS (fun w' => w'.heap[w.heap.size + 1]? = some (.cells #[.int .i64 (E : Int)] 25 (0, 0)) ∧ w'.heap[w.heap.size + 1 + 1]? = some (.cells #[.int .i64 (A : Int)] 3 (0, 0))) 5 rfl (by kernel_rfl) ?_
      have i24 : ∀ W, (isAgg 25).run Tryz.prog W = .ok false W := fun W => by kernel_rfl
      have i3 : ∀ W, (isAgg 3).run Tryz.prog W = .ok false W := fun W => by kernel_rfl
      have kd : Res3 wa.drew w.heap.size (.slice none 0 0) (.int .i64 (E : Int)) (.int .i64 (A : Int)) := ⟨HK.out.1.k0, HK.out.1.k1, HK.out.1.k2⟩
      have bd : Below w.heap.size w wa.drew := HK.out.2.drew
      refine wpAnyH_take (i := 0) (v := .int .i64 (E : Int)) rfl (by kernel_rfl) (by kernel_rfl) (by kernel_rfl) (fun _ _ _ h => absurd h.1 (by simp)) (.inl ⟨rfl, fun W hW => run_loadOp rfl _ _ _ (.int .i64 (E : Int)) rfl (load_one W (i24 W) _ _ (by rw [cell_of_row _ _ _ _ _ _ hW.1]; rfl))⟩) ⟨kd.k1, kd.k2⟩ ?_
      refine wpAnyH_take (i := 1) (v := .int .i64 (A : Int)) rfl (by kernel_rfl) (by kernel_rfl) (by kernel_rfl) (fun _ _ _ h => absurd h.1 (by simp)) (.inl ⟨rfl, fun W hW => run_loadOp rfl _ _ _ (.int .i64 (A : Int)) rfl (load_one W (i3 W) _ _ (by rw [cell_of_row _ _ _ _ _ _ hW.2]; rfl))⟩) ⟨kd.k1, kd.k2⟩ ?_
      have k4 := kd.set0 (.slice none 0 0)
      have k5 := k4.set1 (.int .i64 (E : Int))
      have k6 := k5.set2 (.int .i64 (A : Int))
      have b6 := tc_below (tc_below (tc_below bd (Nat.le_refl _) 0 (.slice none 0 0)) (g := w.heap.size + 1) (by omega) 0 (.int .i64 (E : Int))) (g := w.heap.size + 1 + 1) (by omega) 0 (.int .i64 (A : Int))
      refine wpAnyH_all (rs := [2]) (by kernel_rfl) (by decide) ?_
      intro i hi
      obtain rfl := List.mem_singleton.1 hi
      refine wpOp_skip0 rfl rfl (run_storeOp rfl _ _ _ (.pointer (some ⟨w.heap.size, 0, none⟩)) (.slice none 0 0) rfl rfl (store_one (fun W => Tryz.sizeOf55 W) _ _ _ (.slice none 0 0) (.inl ⟨_, _, _, rfl⟩) (by rw [cell_of_row _ _ _ _ _ _ kd.k0]; rfl) (tc_frozen kd.k0 rfl))) rfl ⟨⟨k4.k1, k4.k2⟩, ?_⟩
      refine wpAnyH_all (rs := [3]) (by kernel_rfl) (by decide) ?_
      intro i hi
      obtain rfl := List.mem_singleton.1 hi
      refine wpOp_skip0 rfl rfl (run_storeOp rfl _ _ _ (.pointer (some ⟨w.heap.size + 1, 0, none⟩)) (.int .i64 (E : Int)) rfl rfl (store_one (fun W => Tryz.sizeOf25 W) _ _ _ (.int .i64 (E : Int)) (.inr ⟨_, _, rfl⟩) (by rw [cell_of_row _ _ _ _ _ _ k4.k1]; rfl) (tc_frozen k4.k1 rfl))) rfl ⟨⟨k5.k1, k5.k2⟩, ?_⟩
      refine wpAnyH_all (rs := [4]) (by kernel_rfl) (by decide) ?_
      intro i hi
      obtain rfl := List.mem_singleton.1 hi
      refine wpOp_skip0 rfl rfl (run_storeOp rfl _ _ _ (.pointer (some ⟨w.heap.size + 1 + 1, 0, none⟩)) (.int .i64 (A : Int)) rfl rfl (store_one (fun W => Tryz.sizeOf3 W) _ _ _ (.int .i64 (A : Int)) (.inr ⟨_, _, rfl⟩) (by rw [cell_of_row _ _ _ _ _ _ k5.k2]; rfl) (tc_frozen k5.k2 rfl))) rfl ⟨⟨k6.k1, k6.k2⟩, ?_⟩
      refine wpAnyH_done (by kernel_rfl) ?_ _
      exact ⟨rfl, ⟨_, _, rfl⟩, k6, b6⟩
    rintro a' w' ⟨⟨y, z, rfl⟩, k6, b6⟩
    simp only [Act.put, List.setIfInBounds_toArray, List.set_cons_succ, List.set_cons_zero]
    go_wp2_with fail
    refine ⟨_, res3_run rfl k6 rfl rfl rfl, .slice none 0 0, ?_, ?_, b6⟩
    · rw [HP.out]
    · rw [HP.out]
      exact NOwn.nil _ _ _ _ _
end Go.Proofs.YtnbklmmampdbfaaGreatDoor
namespace Go.Proofs.YtnbklmmampdbfaaGreatDoor
open Go
set_option maxRecDepth 20000

/-- Where a walk through tokens stands, and what was wrong first. -/
structure Ws where
  i : Nat
  bad : Nat
  pos : Nat
/-- The token at hand. -/
def nx (E : Nat) (T : List Tok) (s : Ws) : Tok := T.getD s.i ⟨0, E, [], 0⟩
/-- The first fault counts. -/
def wrong (E : Nat) (T : List Tok) (e : Nat) (s : Ws) : Ws := if s.bad = 0 then ⟨s.i, e, (nx E T s).pos⟩ else s
def stepW (s : Ws) : Ws := ⟨s.i + 1, s.bad, s.pos⟩
def kindW (E : Nat) (T : List Tok) (k : Nat) (s : Ws) : Tok × Ws := (nx E T s, stepW (if (nx E T s).kind = k then s else wrong E T 8 s))
def wordW (E : Nat) (T : List Tok) (w : List UInt8) (s : Ws) : Bool := decide ((nx E T s).kind = 1) && (nx E T s).text == w
def figW (E : Nat) (T : List Tok) (s : Ws) : Fig × Ws := (⟨((kindW E T 2 s).1.num : Int), ((kindW E T 2 s).1.pos : Int)⟩, (kindW E T 2 s).2)
def dotsW (E : Nat) (T : List Tok) : Nat → Ws → List Fig × Ws
  | 0, s => ([], s)
  | n + 1, s => ((figW E T (kindW E T 3 s).2).1 :: (dotsW E T n (figW E T (kindW E T 3 s).2).2).1, (dotsW E T n (figW E T (kindW E T 3 s).2).2).2)
def optW (E : Nat) (T : List Tok) (b : Bool) (k : Nat) (s : Ws) : Option Fig × Ws := if b = true ∧ (nx E T s).kind = k then (some (figW E T (stepW s)).1, (figW E T (stepW s)).2) else (none, s)
/-- What is looked at before a clause's numbers. -/
def headW (E : Nat) (T : List Tok) (had : List Cla) (s : Ws) : Ws :=
  let s1 := if !(isAddrW (nx E T s).text) && !(isPortW (nx E T s).text) && !((nx E T s).text == wProto) then wrong E T 8 s else s
  stepW (if had.any (fun c => c.word == (nx E T s).text) then wrong E T 9 s1 else s1)
def clauseW (E : Nat) (T : List Tok) (had : List Cla) (s : Ws) : Cla × Ws :=
  let t := nx E T s
  let f := figW E T (headW E T had s)
  let d := if isAddrW t.text then dotsW E T 3 f.2 else ([], f.2)
  let o4 := optW E T (isAddrW t.text) 4 d.2
  let o5 := optW E T (isPortW t.text) 5 o4.2
  (⟨t.text, (t.pos : Int), f.1 :: (d.1 ++ o4.1.toList ++ o5.1.toList), o4.1.isSome, o5.1.isSome⟩, o5.2)
def clausesW (E : Nat) (T : List Tok) : Nat → List Cla → Ws → List Cla × Ws
  | 0, had, s => (had, s)
  | f + 1, had, s => if s.bad = 0 ∧ (nx E T s).kind = 1 then clausesW E T f (had ++ [(clauseW E T had s).1]) (clauseW E T had s).2 else (had, s)
def frontW (E : Nat) (T : List Tok) (s : Ws) : (Bool × Fig × List Cla) × Ws :=
  if wordW E T wDefault s then ((true, ⟨0, 0⟩, []), stepW s) else
    let f := figW E T s
    let c := clausesW E T (T.length - f.2.i) [] f.2
    ((false, f.1, c.1), c.2)
def actW (E : Nat) (T : List Tok) (s : Ws) : (Bool × Fig) × Ws :=
  if wordW E T wDrop s then ((true, ⟨0, 0⟩), stepW s) else
    let f := figW E T (stepW (if wordW E T wPort s then s else wrong E T 8 s))
    ((false, f.1), f.2)
def endW (E : Nat) (T : List Tok) (s : Ws) : Ws := if s.i < T.length ∧ (nx E T s).kind ≠ 7 then wrong E T 8 s else s
def rowW (E : Nat) (T : List Tok) (s : Ws) : Raw × Ws :=
  let h := frontW E T s
  let k := kindW E T 6 h.2
  let a := actW E T k.2
  (⟨((nx E T s).pos : Int), h.1.1, h.1.2.1, h.1.2.2, a.1.1, a.1.2⟩, endW E T a.2)
def rowsW (E : Nat) (T : List Tok) : Nat → List Raw → Ws → List Raw × Ws
  | 0, had, s => (had, s)
  | f + 1, had, s => if s.i < T.length ∧ s.bad = 0 then (if (nx E T s).kind = 7 then rowsW E T f had (stepW s) else
      rowsW E T f (had ++ [(rowW E T (if had.length = 64 then wrong E T 4 s else s)).1]) (rowW E T (if had.length = 64 then wrong E T 4 s else s)).2) else (had, s)

/-- What was wrong stays so. -/
def Keeps (s s' : Ws) : Prop := s.bad ≠ 0 → s'.bad = s.bad ∧ s'.pos = s.pos
theorem Keeps.refl (s : Ws) : Keeps s s := fun _ => ⟨rfl, rfl⟩
theorem Keeps.trans {a b c : Ws} (h1 : Keeps a b) (h2 : Keeps b c) : Keeps a c := fun h => by
  obtain ⟨e1, e2⟩ := h1 h
  obtain ⟨e3, e4⟩ := h2 (by rw [e1]; exact h)
  exact ⟨e3.trans e1, e4.trans e2⟩
theorem keeps_wrong (E : Nat) (T : List Tok) (e : Nat) (s : Ws) : Keeps s (wrong E T e s) := fun h => by unfold wrong; rw [if_neg h]; exact ⟨rfl, rfl⟩
theorem keeps_step (s : Ws) : Keeps s (stepW s) := fun _ => ⟨rfl, rfl⟩
theorem keeps_kind (E : Nat) (T : List Tok) (k : Nat) (s : Ws) : Keeps s (kindW E T k s).2 := by
  unfold kindW
  refine Keeps.trans ?_ (keeps_step _)
  split
  · exact Keeps.refl _
  · exact keeps_wrong E T 8 s
theorem keeps_fig (E : Nat) (T : List Tok) (s : Ws) : Keeps s (figW E T s).2 := keeps_kind E T 2 s
theorem keeps_dots (E : Nat) (T : List Tok) : ∀ (n : Nat) (s : Ws), Keeps s (dotsW E T n s).2
  | 0, s => Keeps.refl s
  | n + 1, s => ((keeps_kind E T 3 s).trans (keeps_fig E T _)).trans (keeps_dots E T n _)
theorem keeps_opt (E : Nat) (T : List Tok) (b : Bool) (k : Nat) (s : Ws) : Keeps s (optW E T b k s).2 := by
  unfold optW
  split
  · exact (keeps_step s).trans (keeps_fig E T _)
  · exact Keeps.refl s
theorem keeps_head (E : Nat) (T : List Tok) (had : List Cla) (s : Ws) : Keeps s (headW E T had s) := by
  unfold headW
  refine Keeps.trans ?_ (keeps_step _)
  split
  · refine Keeps.trans ?_ (keeps_wrong E T 9 _)
    split
    · exact keeps_wrong E T 8 s
    · exact Keeps.refl s
  · split
    · exact keeps_wrong E T 8 s
    · exact Keeps.refl s
theorem keeps_clause (E : Nat) (T : List Tok) (had : List Cla) (s : Ws) : Keeps s (clauseW E T had s).2 := by
  unfold clauseW
  refine (((keeps_head E T had s).trans (keeps_fig E T _)).trans ?_).trans ((keeps_opt E T _ 4 _).trans (keeps_opt E T _ 5 _))
  split
  · exact keeps_dots E T 3 _
  · exact Keeps.refl _
theorem keeps_clauses (E : Nat) (T : List Tok) : ∀ (f : Nat) (had : List Cla) (s : Ws), Keeps s (clausesW E T f had s).2
  | 0, _, s => Keeps.refl s
  | f + 1, had, s => by
    unfold clausesW
    split
    · exact (keeps_clause E T had s).trans (keeps_clauses E T f _ _)
    · exact Keeps.refl s
theorem keeps_front (E : Nat) (T : List Tok) (s : Ws) : Keeps s (frontW E T s).2 := by
  unfold frontW
  split
  · exact keeps_step s
  · exact (keeps_fig E T s).trans (keeps_clauses E T _ _ _)
theorem keeps_act (E : Nat) (T : List Tok) (s : Ws) : Keeps s (actW E T s).2 := by
  unfold actW
  split
  · exact keeps_step s
  · refine Keeps.trans (Keeps.trans ?_ (keeps_step _)) (keeps_fig E T _)
    split
    · exact Keeps.refl s
    · exact keeps_wrong E T 8 s
theorem keeps_end (E : Nat) (T : List Tok) (s : Ws) : Keeps s (endW E T s) := by
  unfold endW
  split
  · exact keeps_wrong E T 8 s
  · exact Keeps.refl s
theorem keeps_row (E : Nat) (T : List Tok) (s : Ws) : Keeps s (rowW E T s).2 :=
  (((keeps_front E T s).trans (keeps_kind E T 6 _)).trans (keeps_act E T _)).trans (keeps_end E T _)

/-- A walk does what is said of the tokens that are left. -/
def Does {α : Type} (T : List Tok) (s : Ws) (y : α × Ws) (r : Res (α × List Tok)) : Prop :=
  match r with
  | .ok (a, T') => y.1 = a ∧ y.2.bad = 0 ∧ y.2.pos = s.pos ∧ T.drop y.2.i = T'
  | .error (e, q) => y.2.bad = e ∧ y.2.pos = q ∧ e ≠ 0
theorem Does.bind {α β : Type} {T : List Tok} {s : Ws} {y : α × Ws} {r : Res (α × List Tok)} {z : β × Ws} {g : α × List Tok → Res (β × List Tok)} (h : Does T s y r) (hk : Keeps y.2 z.2)
    (h2 : ∀ a T', r = .ok (a, T') → y.1 = a → y.2.bad = 0 → T.drop y.2.i = T' → Does T y.2 z (g (a, T'))) : Does T s z (r.bind g) := by
  cases r with
  | error x =>
    obtain ⟨e, q⟩ := x
    obtain ⟨h1, h3, h4⟩ := h
    obtain ⟨k1, k2⟩ := hk (by rw [h1]; exact h4)
    exact ⟨k1.trans h1, k2.trans h3, h4⟩
  | ok x =>
    obtain ⟨a, T'⟩ := x
    obtain ⟨h1, h3, h4, h5⟩ := h
    have := h2 a T' rfl h1 h3 h5
    show Does T s z (g (a, T'))
    revert this
    generalize g (a, T') = r2
    intro this
    cases r2 with
    | error x => exact this
    | ok x => exact ⟨this.1, this.2.1, this.2.2.1.trans h4, this.2.2.2⟩
theorem Does.map {α β : Type} {T : List Tok} {s : Ws} {y : α × Ws} {r : Res (α × List Tok)} {z : β × Ws} {g : α × List Tok → β × List Tok} (h : Does T s y r) (hz : z.2 = y.2) (h2 : ∀ a T', r = .ok (a, T') → y.1 = a → g (a, T') = (z.1, T')) : Does T s z (r.map g) := by
  cases r with
  | error x =>
    obtain ⟨e, q⟩ := x
    obtain ⟨h1, h3, h4⟩ := h
    exact ⟨by rw [hz]; exact h1, by rw [hz]; exact h3, h4⟩
  | ok x =>
    obtain ⟨a, T'⟩ := x
    obtain ⟨h1, h3, h4, h5⟩ := h
    have e := h2 a T' rfl h1
    show Does T s z (.ok (g (a, T')))
    rw [e]
    exact ⟨rfl, by rw [hz]; exact h3, by rw [hz]; exact h4, by rw [hz]; exact h5⟩

theorem nx_nil {E : Nat} {T : List Tok} {s : Ws} (h : T.drop s.i = []) : nx E T s = ⟨0, E, [], 0⟩ := by
  unfold nx
  have : T.length ≤ s.i := List.drop_eq_nil_iff.1 h
  rw [List.getD, List.getElem?_eq_none this]; rfl
theorem nx_cons {E : Nat} {T : List Tok} {s : Ws} {t : Tok} {T' : List Tok} (h : T.drop s.i = t :: T') : nx E T s = t ∧ s.i < T.length ∧ T.drop (s.i + 1) = T' := by
  have hh : T[s.i]? = some t := by rw [← List.head?_drop, h]; rfl
  refine ⟨by unfold nx; rw [List.getD, hh]; rfl, (List.getElem?_eq_some_iff.1 hh).1, ?_⟩
  rw [← List.drop_drop, h]; rfl
theorem nx_pos (E : Nat) (T : List Tok) (s : Ws) : (nx E T s).pos = posOf E (T.drop s.i) := by
  cases h : T.drop s.i with
  | nil => rw [nx_nil h]; rfl
  | cons t T' => rw [(nx_cons h).1]; rfl
theorem wrong_is {E : Nat} {T : List Tok} {e : Nat} {s : Ws} (h : s.bad = 0) : wrong E T e s = ⟨s.i, e, (nx E T s).pos⟩ := by unfold wrong; rw [if_pos h]

theorem does_kind (E : Nat) (T : List Tok) (k : Nat) (hk : k ≠ 0) (s : Ws) (h : s.bad = 0) : Does T s (kindW E T k s) (takeK E k (T.drop s.i)) := by
  unfold kindW
  cases hd : T.drop s.i with
  | nil =>
    rw [nx_nil hd, if_neg (by simpa using (Ne.symm hk)), wrong_is h, nx_nil hd]
    exact ⟨rfl, rfl, by decide⟩
  | cons t T' =>
    obtain ⟨e1, e2, e3⟩ := nx_cons (E := E) hd
    rw [e1, show takeK E k (t :: T') = if t.kind = k then .ok (t, T') else .error (8, t.pos) from rfl]
    by_cases c : t.kind = k
    · rw [if_pos c, if_pos c]
      exact ⟨rfl, h, rfl, e3⟩
    · rw [if_neg c, if_neg c, wrong_is h, e1]
      exact ⟨rfl, rfl, by decide⟩
theorem does_fig (E : Nat) (T : List Tok) (s : Ws) (h : s.bad = 0) : Does T s (figW E T s) (takeF E (T.drop s.i)) :=
  (does_kind E T 2 (by decide) s h).map rfl fun a T' _ ha => by rw [← ha]; rfl
theorem does_dots (E : Nat) (T : List Tok) : ∀ (n : Nat) (s : Ws), s.bad = 0 → Does T s (dotsW E T n s) (takeD E n (T.drop s.i))
  | 0, s, h => ⟨rfl, h, rfl, rfl⟩
  | n + 1, s, h => by
    unfold dotsW takeD
    refine (does_kind E T 3 (by decide) s h).bind ((keeps_fig E T _).trans (keeps_dots E T n _)) fun a T' _ _ hb hT => ?_
    subst hT
    refine (does_fig E T _ hb).bind (keeps_dots E T n _) fun b T'' _ he hb2 hT2 => ?_
    subst hT2
    exact (does_dots E T n _ hb2).map rfl fun c T3 _ hc => by rw [← hc, ← he]
theorem does_opt (E : Nat) (T : List Tok) (k : Nat) (hk : k ≠ 0) (s : Ws) (h : s.bad = 0) : Does T s (optW E T true k s) (takeO E k (T.drop s.i)) := by
  unfold optW
  cases hd : T.drop s.i with
  | nil =>
    rw [if_neg (by rw [nx_nil hd]; exact fun c => hk c.2.symm)]
    exact ⟨rfl, h, rfl, hd⟩
  | cons t T' =>
    obtain ⟨e1, e2, e3⟩ := nx_cons (E := E) hd
    rw [show takeO E k (t :: T') = if t.kind = k then (takeF E T').map (fun y => (some y.1, y.2)) else .ok (none, t :: T') from rfl]
    by_cases c : t.kind = k
    · rw [if_pos ⟨rfl, by rw [e1]; exact c⟩, if_pos c, ← e3]
      exact (does_fig E T (stepW s) h).map rfl fun a T3 _ ha => by rw [← ha]
    · rw [if_neg (by rw [e1]; exact fun d => c d.2), if_neg c]
      exact ⟨rfl, h, rfl, hd⟩
theorem opt_no (E : Nat) (T : List Tok) (k : Nat) (s : Ws) : optW E T false k s = (none, s) := by unfold optW; rw [if_neg (by simp)]
theorem addr_port (w : List UInt8) (h : isAddrW w = true) : isPortW w = false := by
  unfold isAddrW at h
  simp only [Bool.or_eq_true, beq_iff_eq] at h
  rcases h with rfl | rfl <;> rfl
theorem does_clause (E : Nat) (T : List Tok) (had : List Cla) (s : Ws) (h : s.bad = 0) (t : Tok) (T' : List Tok) (hd : T.drop s.i = t :: T') : Does T s (clauseW E T had s) (takeC E had t T') := by
  obtain ⟨e1, e2, e3⟩ := nx_cons (E := E) hd
  unfold takeC
  by_cases c1 : (!(isAddrW t.text) && !(isPortW t.text) && !(t.text == wProto)) = true
  · rw [if_pos c1]
    have hh : (headW E T had s).bad = 8 ∧ (headW E T had s).pos = t.pos := by
      unfold headW
      rw [e1]
      simp only [c1, if_true]
      split
      · have := keeps_wrong E T 9 (wrong E T 8 s) (by rw [wrong_is h]; show (8 : Nat) ≠ 0; decide)
        rw [wrong_is h, e1] at this ⊢
        exact this
      · rw [wrong_is h, e1]; exact ⟨rfl, rfl⟩
    have hk : Keeps (headW E T had s) (clauseW E T had s).2 := by
      unfold clauseW
      refine ((keeps_fig E T _).trans ?_).trans ((keeps_opt E T _ 4 _).trans (keeps_opt E T _ 5 _))
      split
      · exact keeps_dots E T 3 _
      · exact Keeps.refl _
    obtain ⟨k1, k2⟩ := hk (by rw [hh.1]; decide)
    exact ⟨k1.trans hh.1, k2.trans hh.2, by decide⟩
  rw [if_neg c1]
  by_cases c2 : had.any (fun c => c.word == t.text) = true
  · rw [if_pos c2]
    have hh : (headW E T had s).bad = 9 ∧ (headW E T had s).pos = t.pos := by
      unfold headW
      rw [e1]
      simp only [c2, if_true]
      rw [if_neg c1, wrong_is h, e1]
      exact ⟨rfl, rfl⟩
    have hk : Keeps (headW E T had s) (clauseW E T had s).2 := by
      unfold clauseW
      refine ((keeps_fig E T _).trans ?_).trans ((keeps_opt E T _ 4 _).trans (keeps_opt E T _ 5 _))
      split
      · exact keeps_dots E T 3 _
      · exact Keeps.refl _
    obtain ⟨k1, k2⟩ := hk (by rw [hh.1]; decide)
    exact ⟨k1.trans hh.1, k2.trans hh.2, by decide⟩
  rw [if_neg c2]
  have hh : headW E T had s = stepW s := by
    unfold headW
    rw [e1]
    simp only [if_neg c1, if_neg c2]
  unfold clauseW
  simp only [hh, e1]
  have hs : Does T s (figW E T (stepW s)) (takeF E T') := by rw [← e3]; exact does_fig E T (stepW s) h
  refine hs.bind ?_ fun x T2 hr hx hb hT2 => ?_
  · refine Keeps.trans ?_ ((keeps_opt E T _ 4 _).trans (keeps_opt E T _ 5 _))
    split
    · exact keeps_dots E T 3 _
    · exact Keeps.refl _
  subst hT2
  by_cases c3 : isAddrW t.text = true
  · have c4 := addr_port t.text c3
    simp only [c3, if_true, c4]
    refine (does_dots E T 3 _ hb).bind ((keeps_opt E T _ 4 _).trans (keeps_opt E T _ 5 _)) fun y T3 _ hy hb3 hT3 => ?_
    subst hT3
    refine (does_opt E T 4 (by decide) _ hb3).map (by rw [opt_no]) fun z T4 _ hz => ?_
    rw [opt_no]
    simp [hx, hy, hz]
  · have c3' : isAddrW t.text = false := by simpa using c3
    simp only [c3', Bool.false_eq_true, if_false, opt_no]
    by_cases c4 : isPortW t.text = true
    · simp only [c4, if_true]
      refine (does_opt E T 5 (by decide) _ hb).map rfl fun z T4 _ hz => ?_
      simp [hx, hz]
    · have c4' : isPortW t.text = false := by simpa using c4
      simp only [c4', Bool.false_eq_true, if_false, opt_no]
      exact ⟨by simp [hx], hb, rfl, rfl⟩
theorem does_clauses (E : Nat) (T : List Tok) : ∀ (f : Nat) (had : List Cla) (s : Ws), s.bad = 0 → Does T s (clausesW E T f had s) (takeCs E f had (T.drop s.i))
  | 0, had, s, h => ⟨rfl, h, rfl, rfl⟩
  | f + 1, had, s, h => by
    unfold clausesW
    cases hd : T.drop s.i with
    | nil =>
      rw [if_neg (by rw [nx_nil hd]; exact fun c => absurd (show (0 : Nat) = 1 from c.2) (by decide))]
      exact ⟨rfl, h, rfl, hd⟩
    | cons t T' =>
      obtain ⟨e1, e2, e3⟩ := nx_cons (E := E) hd
      rw [show takeCs E (f + 1) had (t :: T') = if t.kind = 1 then (takeC E had t T').bind (fun x => takeCs E f (had ++ [x.1]) x.2) else .ok (had, t :: T') from rfl]
      by_cases c : t.kind = 1
      · rw [if_pos ⟨h, by rw [e1]; exact c⟩, if_pos c]
        refine (does_clause E T had s h t T' hd).bind (keeps_clauses E T f _ _) fun x T2 _ hx hb hT2 => ?_
        subst hT2
        rw [← hx]
        exact does_clauses E T f _ _ hb
      · rw [if_neg (by rw [e1]; exact fun d => c d.2), if_neg c]
        exact ⟨rfl, h, rfl, hd⟩
theorem word_cons {E : Nat} {T : List Tok} {s : Ws} {t : Tok} {T' : List Tok} (hd : T.drop s.i = t :: T') (w : List UInt8) : (wordW E T w s = true) ↔ (t.kind = 1 ∧ t.text = w) := by
  unfold wordW
  rw [(nx_cons (E := E) hd).1]
  simp
theorem word_nil {E : Nat} {T : List Tok} {s : Ws} (hd : T.drop s.i = []) (w : List UInt8) : wordW E T w s = false := by
  unfold wordW
  rw [nx_nil hd]
  rfl
theorem does_front (E : Nat) (T : List Tok) (s : Ws) (h : s.bad = 0) : Does T s (frontW E T s) (takeH E (T.drop s.i)) := by
  unfold frontW
  have hf : Does T s (((false, (figW E T s).1, (clausesW E T (T.length - (figW E T s).2.i) [] (figW E T s).2).1) : Bool × Fig × List Cla), (clausesW E T (T.length - (figW E T s).2.i) [] (figW E T s).2).2)
      ((takeF E (T.drop s.i)).bind fun x => (takeCs E x.2.length [] x.2).map fun y => ((false, x.1, y.1), y.2)) := by
    refine (does_fig E T s h).bind (keeps_clauses E T _ _ _) fun x T2 _ hx hb hT2 => ?_
    subst hT2
    rw [show (T.drop (figW E T s).2.i).length = T.length - (figW E T s).2.i from List.length_drop]
    exact (does_clauses E T _ [] _ hb).map rfl fun y T3 _ hy => by rw [← hy, ← hx]
  cases hd : T.drop s.i with
  | nil =>
    rw [word_nil hd, if_neg (by decide)]
    rw [hd] at hf
    exact hf
  | cons t T' =>
    obtain ⟨e1, e2, e3⟩ := nx_cons (E := E) hd
    rw [show takeH E (t :: T') = if t.kind = 1 ∧ t.text = wDefault then .ok ((true, ⟨0, 0⟩, []), T') else (takeF E (t :: T')).bind fun x => (takeCs E x.2.length [] x.2).map fun y => ((false, x.1, y.1), y.2) from rfl]
    by_cases c : t.kind = 1 ∧ t.text = wDefault
    · rw [if_pos c, if_pos ((word_cons hd wDefault).2 c)]
      exact ⟨rfl, h, rfl, e3⟩
    · rw [if_neg c, if_neg (fun d => c ((word_cons hd wDefault).1 d))]
      rw [hd] at hf
      exact hf
theorem does_act (E : Nat) (T : List Tok) (s : Ws) (h : s.bad = 0) : Does T s (actW E T s) (takeA E (T.drop s.i)) := by
  unfold actW
  cases hd : T.drop s.i with
  | nil =>
    rw [word_nil hd, word_nil hd, if_neg (by decide), if_neg (by decide)]
    obtain ⟨k1, k2⟩ := (keeps_step (wrong E T 8 s)).trans (keeps_fig E T _) (by rw [wrong_is h]; show (8 : Nat) ≠ 0; decide)
    rw [wrong_is h, nx_nil hd] at k1 k2
    refine ⟨?_, ?_, by decide⟩
    · rw [wrong_is h, nx_nil hd]; exact k1
    · rw [wrong_is h, nx_nil hd]; exact k2
  | cons t T' =>
    obtain ⟨e1, e2, e3⟩ := nx_cons (E := E) hd
    rw [show takeA E (t :: T') = if t.kind = 1 ∧ t.text = wDrop then .ok ((true, ⟨0, 0⟩), T') else if t.kind = 1 ∧ t.text = wPort then (takeF E T').map (fun x => ((false, x.1), x.2)) else .error (8, t.pos) from rfl]
    by_cases c : t.kind = 1 ∧ t.text = wDrop
    · rw [if_pos c, if_pos ((word_cons hd wDrop).2 c)]
      exact ⟨rfl, h, rfl, e3⟩
    · rw [if_neg c, if_neg (fun d => c ((word_cons hd wDrop).1 d))]
      by_cases c2 : t.kind = 1 ∧ t.text = wPort
      · rw [if_pos c2, if_pos ((word_cons hd wPort).2 c2), ← e3]
        exact (does_fig E T (stepW s) h).map rfl fun a T3 _ ha => by rw [← ha]
      · rw [if_neg c2, if_neg (fun d => c2 ((word_cons hd wPort).1 d))]
        obtain ⟨k1, k2⟩ := (keeps_step (wrong E T 8 s)).trans (keeps_fig E T _) (by rw [wrong_is h]; show (8 : Nat) ≠ 0; decide)
        rw [wrong_is h, e1] at k1 k2
        refine ⟨?_, ?_, by decide⟩
        · rw [wrong_is h, e1]; exact k1
        · rw [wrong_is h, e1]; exact k2
theorem does_end (E : Nat) (T : List Tok) (s : Ws) (h : s.bad = 0) : Does T s ((), endW E T s) ((takeE (T.drop s.i)).map fun u => ((), u)) := by
  unfold endW
  cases hd : T.drop s.i with
  | nil =>
    rw [if_neg (fun c => absurd (List.drop_eq_nil_iff.1 hd) (by omega))]
    exact ⟨rfl, h, rfl, hd⟩
  | cons t T' =>
    obtain ⟨e1, e2, e3⟩ := nx_cons (E := E) hd
    rw [show takeE (t :: T') = if t.kind = 7 then .ok (t :: T') else .error (8, t.pos) from rfl]
    by_cases c : t.kind = 7
    · rw [if_pos c, if_neg (by rw [e1]; exact fun d => d.2 c)]
      exact ⟨rfl, h, rfl, hd⟩
    · rw [if_neg c, if_pos ⟨e2, by rw [e1]; exact c⟩, wrong_is h, e1]
      exact ⟨rfl, rfl, by decide⟩
theorem does_row (E : Nat) (T : List Tok) (s : Ws) (h : s.bad = 0) : Does T s (rowW E T s) (takeR E (T.drop s.i)) := by
  unfold rowW takeR
  refine (does_front E T s h).bind (((keeps_kind E T 6 _).trans (keeps_act E T _)).trans (keeps_end E T _)) fun x T2 _ hx hb hT2 => ?_
  subst hT2
  refine (does_kind E T 6 (by decide) _ hb).bind ((keeps_act E T _).trans (keeps_end E T _)) fun y T3 _ hy hb3 hT3 => ?_
  subst hT3
  refine (does_act E T _ hb3).bind (keeps_end E T _) fun z T4 _ hz hb4 hT4 => ?_
  subst hT4
  have he := does_end E T _ hb4
  rw [← nx_pos, ← hx, ← hz]
  revert he
  cases takeE (T.drop (actW E T (kindW E T 6 (frontW E T s).2).2).2.i) with
  | error q => exact fun he => he
  | ok u => exact fun he => ⟨rfl, he.2⟩
/-- THE WALK THROUGH THE TOKENS comes to the lines, or to what is wrong first. -/
theorem does_rows (E : Nat) (T : List Tok) : ∀ (f : Nat) (had : List Raw) (s : Ws), s.bad = 0 → match takeL E f had (T.drop s.i) with
    | .ok l => (rowsW E T f had s).2.bad = 0 ∧ (rowsW E T f had s).1 = l
    | .error x => (rowsW E T f had s).2.bad = x.1 ∧ (rowsW E T f had s).2.pos = x.2 ∧ x.1 ≠ 0
  | 0, had, s, h => ⟨h, rfl⟩
  | f + 1, had, s, h => by
    have stay : ∀ (g : Nat) (had : List Raw) (s : Ws), s.bad ≠ 0 → rowsW E T g had s = (had, s) := fun g had s hb => by
      cases g with
      | zero => rfl
      | succ g => unfold rowsW; rw [if_neg (fun c => hb c.2)]
    cases hd : T.drop s.i with
    | nil =>
      have hR : rowsW E T (f + 1) had s = (had, s) := by
        unfold rowsW
        rw [if_neg (fun c => absurd (List.drop_eq_nil_iff.1 hd) (by omega))]
      rw [hR]
      exact ⟨h, rfl⟩
    | cons t T' =>
      obtain ⟨e1, e2, e3⟩ := nx_cons (E := E) hd
      have hL : takeL E (f + 1) had (t :: T') = if t.kind = 7 then takeL E f had T' else if had.length = 64 then .error (4, t.pos) else (takeR E (t :: T')).bind (fun x => takeL E f (had ++ [x.1]) x.2) := rfl
      have hR : rowsW E T (f + 1) had s = if t.kind = 7 then rowsW E T f had (stepW s) else rowsW E T f (had ++ [(rowW E T (if had.length = 64 then wrong E T 4 s else s)).1]) (rowW E T (if had.length = 64 then wrong E T 4 s else s)).2 := by
        rw [rowsW, if_pos ⟨e2, h⟩, e1]
      by_cases c : t.kind = 7
      · rw [if_pos c] at hL hR
        rw [hL, hR]
        have := does_rows E T f had (stepW s) h
        rw [show (stepW s).i = s.i + 1 from rfl, e3] at this
        exact this
      · rw [if_neg c] at hL hR
        by_cases c2 : had.length = 64
        · rw [if_pos c2] at hL
          simp only [if_pos c2] at hR
          rw [hL, hR]
          obtain ⟨k1, k2⟩ := keeps_row E T (wrong E T 4 s) (by rw [wrong_is h]; show (4 : Nat) ≠ 0; decide)
          have hw : (wrong E T 4 s).bad = 4 ∧ (wrong E T 4 s).pos = t.pos := by rw [wrong_is h, e1]; exact ⟨rfl, rfl⟩
          rw [stay _ _ _ (by rw [k1, hw.1]; decide)]
          exact ⟨k1.trans hw.1, k2.trans hw.2, by show (4 : Nat) ≠ 0; decide⟩
        · rw [if_neg c2] at hL
          simp only [if_neg c2] at hR
          rw [hL, hR]
          have hr := does_row E T s h
          rw [hd] at hr
          cases hx : takeR E (t :: T') with
          | error x =>
            rw [hx] at hr
            obtain ⟨h1, h2, h3⟩ := hr
            rw [stay _ _ _ (by rw [h1]; exact h3)]
            exact ⟨h1, h2, h3⟩
          | ok x =>
            rw [hx] at hr
            obtain ⟨a, T2⟩ := x
            obtain ⟨h1, h2, _, h4⟩ := hr
            have := does_rows E T f (had ++ [(rowW E T s).1]) (rowW E T s).2 h2
            rw [h4, h1] at this
            rw [h1]
            exact this
/-! How far a walk goes. -/
theorem wrong_i (E : Nat) (T : List Tok) (e : Nat) (s : Ws) : (wrong E T e s).i = s.i := by unfold wrong; split <;> rfl
theorem kind_i (E : Nat) (T : List Tok) (k : Nat) (s : Ws) : (kindW E T k s).2.i = s.i + 1 := by
  unfold kindW stepW
  split
  · rfl
  · simp [wrong_i]
theorem fig_i (E : Nat) (T : List Tok) (s : Ws) : (figW E T s).2.i = s.i + 1 := kind_i E T 2 s
theorem dots_i (E : Nat) (T : List Tok) : ∀ (n : Nat) (s : Ws), (dotsW E T n s).2.i = s.i + 2 * n
  | 0, s => rfl
  | n + 1, s => by
    have := dots_i E T n (figW E T (kindW E T 3 s).2).2
    rw [fig_i, kind_i] at this
    rw [dotsW]
    show (dotsW E T n (figW E T (kindW E T 3 s).2).2).2.i = _
    omega
theorem opt_i (E : Nat) (T : List Tok) (b : Bool) (k : Nat) (s : Ws) : s.i ≤ (optW E T b k s).2.i ∧ (optW E T b k s).2.i ≤ s.i + 2 := by
  unfold optW
  split
  · have := fig_i E T (stepW s)
    have h2 : (stepW s).i = s.i + 1 := rfl
    constructor <;> (show _ ≤ _; simp only; omega)
  · exact ⟨Nat.le_refl _, Nat.le_add_right _ _⟩
theorem head_i (E : Nat) (T : List Tok) (had : List Cla) (s : Ws) : (headW E T had s).i = s.i + 1 := by
  unfold headW stepW
  simp only
  split
  · rw [wrong_i]; split <;> simp [wrong_i]
  · split <;> simp [wrong_i]
theorem clause_i (E : Nat) (T : List Tok) (had : List Cla) (s : Ws) : s.i + 2 ≤ (clauseW E T had s).2.i ∧ (clauseW E T had s).2.i ≤ s.i + 12 := by
  unfold clauseW
  simp only
  have h1 := head_i E T had s
  have h2 := fig_i E T (headW E T had s)
  have h3 : (headW E T had s).i + 1 ≤ (if isAddrW (nx E T s).text = true then dotsW E T 3 (figW E T (headW E T had s)).2 else ([], (figW E T (headW E T had s)).2)).2.i ∧ (if isAddrW (nx E T s).text = true then dotsW E T 3 (figW E T (headW E T had s)).2 else ([], (figW E T (headW E T had s)).2)).2.i ≤ (headW E T had s).i + 7 := by
    split
    · have := dots_i E T 3 (figW E T (headW E T had s)).2
      omega
    · show _ ≤ (figW E T (headW E T had s)).2.i ∧ (figW E T (headW E T had s)).2.i ≤ _
      omega
  revert h3
  generalize (if isAddrW (nx E T s).text = true then dotsW E T 3 (figW E T (headW E T had s)).2 else ([], (figW E T (headW E T had s)).2)) = d
  intro h3
  have h4 := opt_i E T (isAddrW (nx E T s).text) 4 d.2
  have h5 := opt_i E T (isPortW (nx E T s).text) 5 (optW E T (isAddrW (nx E T s).text) 4 d.2).2
  omega
theorem kind1_lt {E : Nat} {T : List Tok} {s : Ws} (h : (nx E T s).kind = 1) : s.i < T.length := by
  by_cases hi : s.i < T.length
  · exact hi
  · rw [nx_nil (List.drop_eq_nil_iff.2 (by omega))] at h
    cases h
theorem clauses_i (E : Nat) (T : List Tok) : ∀ (f : Nat) (had : List Cla) (s : Ws), s.i ≤ T.length + 12 → s.i ≤ (clausesW E T f had s).2.i ∧ (clausesW E T f had s).2.i ≤ T.length + 12
  | 0, _, s, h => ⟨Nat.le_refl _, h⟩
  | f + 1, had, s, h => by
    unfold clausesW
    split
    · rename_i hc
      have h1 := kind1_lt hc.2
      have h2 := clause_i E T had s
      have h3 := clauses_i E T f (had ++ [(clauseW E T had s).1]) (clauseW E T had s).2 (by omega)
      omega
    · exact ⟨Nat.le_refl _, h⟩
theorem front_i (E : Nat) (T : List Tok) (s : Ws) (h : s.i < T.length) : s.i < (frontW E T s).2.i ∧ (frontW E T s).2.i ≤ T.length + 12 := by
  unfold frontW
  split
  · show s.i < s.i + 1 ∧ s.i + 1 ≤ _
    omega
  · have h1 := fig_i E T s
    have h2 := clauses_i E T (T.length - (figW E T s).2.i) [] (figW E T s).2 (by omega)
    simp only
    omega
theorem act_i (E : Nat) (T : List Tok) (s : Ws) : s.i < (actW E T s).2.i ∧ (actW E T s).2.i ≤ s.i + 2 := by
  unfold actW
  split
  · show s.i < s.i + 1 ∧ s.i + 1 ≤ _
    omega
  · simp only
    rw [fig_i]
    have : (stepW (if wordW E T wPort s = true then s else wrong E T 8 s)).i = s.i + 1 := by
      unfold stepW
      split
      · rfl
      · simp [wrong_i]
    omega
/-- A line takes a token at least, and goes no further than so many behind the last one. -/
theorem row_i (E : Nat) (T : List Tok) (s : Ws) (h : s.i < T.length) : s.i < (rowW E T s).2.i ∧ (rowW E T s).2.i ≤ T.length + 15 := by
  unfold rowW
  simp only
  have h1 := front_i E T s h
  have h2 := kind_i E T 6 (frontW E T s).2
  have h3 := act_i E T (kindW E T 6 (frontW E T s).2).2
  have h4 : (endW E T (actW E T (kindW E T 6 (frontW E T s).2).2).2).i = (actW E T (kindW E T 6 (frontW E T s).2).2).2.i := by
    unfold endW
    split
    · exact wrong_i E T 8 _
    · rfl
  omega
/-- The numbers, one behind the other. -/
def dotsA (E : Nat) (T : List Tok) : Nat → List Fig × Ws → List Fig × Ws
  | 0, x => x
  | n + 1, x => ((dotsA E T n x).1 ++ [(figW E T (kindW E T 3 (dotsA E T n x).2).2).1], (figW E T (kindW E T 3 (dotsA E T n x).2).2).2)
theorem dotsA_left (E : Nat) (T : List Tok) : ∀ (n : Nat) (l : List Fig) (s : Ws), dotsA E T (n + 1) (l, s) = dotsA E T n (l ++ [(figW E T (kindW E T 3 s).2).1], (figW E T (kindW E T 3 s).2).2)
  | 0, l, s => rfl
  | n + 1, l, s => by
    rw [dotsA, dotsA_left E T n l s]
    rfl
theorem dots_A (E : Nat) (T : List Tok) : ∀ (n : Nat) (l : List Fig) (s : Ws), dotsA E T n (l, s) = (l ++ (dotsW E T n s).1, (dotsW E T n s).2)
  | 0, l, s => by simp [dotsA, dotsW]
  | n + 1, l, s => by
    rw [dotsA_left, dots_A E T n, dotsW]
    simp
end Go.Proofs.YtnbklmmampdbfaaGreatDoor
namespace Go.Proofs.YtnbklmmampdbfaaGreatDoor
open Go Go.RowKit
set_option maxRecDepth 20000

theorem parseP_zero7 {S : List UInt8} (h : (parseP S).2.1 = 0) : parseT S = .ok (parseP S).1 := by
  unfold parseP at h ⊢
  cases hx : parseT S with
  | ok l => rfl
  | error x =>
    rw [hx] at h
    exfalso
    have h' : x.1 = 0 := h
    unfold parseT at hx
    by_cases h4 : 4096 < S.length
    · rw [if_pos h4] at hx; cases hx; exact absurd h' (by decide)
    · rw [if_neg h4] at hx
      cases hl : lexW 0 S with
      | error y =>
        rw [hl] at hx
        cases hx
        obtain ⟨e, p⟩ := x
        have := lexW_error S 0 e p hl
        have h2 : e = 0 := h'
        omega
      | ok T =>
        rw [hl] at hx
        have hx' : takeL S.length (T.length + 1) [] T = .error x := hx
        have := does_rows S.length T (T.length + 1) [] ⟨0, 0, 0⟩ rfl
        rw [show T.drop (Ws.mk 0 0 0).i = T from rfl, hx'] at this
        exact this.2.2 h'
theorem parseP_nil7 {S : List UInt8} (h : (parseP S).2.1 ≠ 0) : (parseP S).1 = [] := by
  unfold parseP at h ⊢
  cases hx : parseT S with
  | ok l => rw [hx] at h; exact absurd rfl h
  | error x => rfl


def ent00 : Ent := ⟨false, 0, 0, 0, 0, 0, 0, 0, 0, 0, 0, 0⟩
set_option maxHeartbeats 1000000 in
theorem says_any (l : List Ent) (vl : Value) (w : World) (hl : EntsAt w vl l) (h32 : ∀ x ∈ l, ent32 x) (L : List Int) (hL : Byt L) (hP : Places w) :
    Calls Tryz.prog 12 #[vl, .agg (hv L)] w fun e w' => e = .returned (.tuple #[.int .i64 (saysT (applyT L) l).1, .bool (saysT (applyT L) l).2]) ∧ Below w.heap.size w w' := by
  have hLl := hL.1
  have hp := hP.pos
  have WC : Hid (∀ W, Below w.heap.size w W → Calls Tryz.prog 23 #[vl, .agg (hv L)] W fun e w' => e = .returned (.int .i64 (whichI (applyT L) l)) ∧ Below W.heap.size W w') := fun W hb => which_any l vl W (GSl.below hl hb) h32 L hL (hP.later hp hb)
  obtain ⟨o, cap, rfl, hc1, hc2⟩ := GSl.slice hl
  obtain ⟨n, hn⟩ : ∃ n, n = l.length := ⟨_, rfl⟩
  rw [← hn] at hl hc1 WC ⊢
  have HL : Hid (EntsAt w (.slice o n cap) l) := hl
  unfold maxLen at hc2
  have KN : Hid ((w.alloc (.cells (hv L) 31)).heap[w.heap.size]? = some (.cells (hv L) 31 (0, 0)) ∧ Below w.heap.size w (w.alloc (.cells (hv L) 31))) := ⟨heap_new _ _ _ rfl, (Below.refl _ _).alloc (Nat.le_refl _) _⟩
  cases hw : whichT (applyT L) l with
  | none =>
    have e1 : whichI (applyT L) l = -1 := by unfold whichI; rw [hw]; rfl
    have e2 : saysT (applyT L) l = (0, false) := by unfold saysT; rw [hw]
    rw [e2]
    rw [e1] at WC
    clear hl h32 hP hp hw e1 e2 hn
    go_enter Tryz.func12, Tryz.ntmps12
    go_wp2_with (refine wl_load26 rfl _ rfl w.heap.size rfl L KN.out.1 hLl ?_)
    refine (WC.out _ KN.out.2).mono ?_
    rintro e w1 ⟨rfl, hb1⟩
    have B1 : Hid (Below w.heap.size w w1) := KN.out.2.trans (hb1.mono KN.out.2.size)
    clear hb1
    go_wp2_with fail
    go_ret2
    exact ⟨rfl, B1.out⟩
  | some i =>
    obtain ⟨x, hx⟩ := whichT_in hw
    have hi : i < n := by rw [hn]; exact (List.getElem?_eq_some_iff.1 hx).1
    have e1 : whichI (applyT L) l = (i : Int) := by unfold whichI; rw [hw]; rfl
    have e2 : saysT (applyT L) l = (x.action, true) := by unfold saysT; rw [hw]; simp only [List.getD_eq_getElem?_getD, hx]; rfl
    rw [e2]
    rw [e1] at WC
    obtain ⟨g, off, cur, ty, fr, x', rfl, hg, hc, hxi⟩ := hl.at i hi
    obtain rfl : x = x' := Option.some.inj (hx.symm.trans hxi)
    have HG : Hid (w.heap[g]? = some (.cells cur ty fr)) := hg
    have HC : Hid (cur[off + i * 12 + 11]? = some (.int .i64 x.action)) := ent_act hc
    have hi0 : ¬ (i : Int) < 0 := by omega
    have hi1 : (i : Int) < (n : Int) := by omega
    clear hl h32 hP hp hw e1 e2 hx hxi hg hc hn
    go_enter Tryz.func12, Tryz.ntmps12
    go_wp2_with (refine wl_load26 rfl _ rfl w.heap.size rfl L KN.out.1 hLl ?_)
    refine (WC.out _ KN.out.2).mono ?_
    rintro e w1 ⟨rfl, hb1⟩
    have B1 : Hid (Below w.heap.size w w1) := KN.out.2.trans (hb1.mono KN.out.2.size)
    have q : w1.cell? ⟨g, off + i * 12 + 11, none⟩ = some (.int .i64 x.action) := by rw [cell_of_row _ _ _ _ _ _ ((B1.out.block g (Array.getElem?_eq_some_iff.1 HG.out).1).trans HG.out)]; exact HC.out
    clear hb1
    go_wp2_with fail
    go_ret2
    exact ⟨rfl, B1.out⟩

/-- What a text comes to. -/
def readP (S : List UInt8) : List Ent × Int × Int := outC (readT S)
theorem readP_bad {S : List UInt8} (h : (parseP S).2.1 ≠ 0) : readP S = ([], ((parseP S).2.1 : Int), ((parseP S).2.2 : Int)) := by
  unfold readP readT
  unfold parseP at h ⊢
  cases hp : parseT S with
  | ok l => rw [hp] at h; exact absurd rfl h
  | error x => rfl
theorem readP_good {S : List UInt8} (h : (parseP S).2.1 = 0) : readP S = checkP (S.length : Int) (parseP S).1 := by
  have := parseP_zero7 h
  unfold readP readT checkP
  rw [this]
theorem raws_sl7 {B : Nat} {w : World} {L : List Raw} {v : Value} (h : RawsOwn B w L v) : RawsAt w v L := by
  obtain ⟨P, h1, h2, h3⟩ := h
  refine ⟨P, h1, gsl_of (E := RawE) h2 fun c _ => rfl, fun p hp => ?_⟩
  obtain ⟨Q, q1, q2, q3⟩ := h3 p hp
  exact ⟨Q, q1, gsl_of (E := ClaE) q2 fun c _ => rfl, fun r hr => gsl_of (E := FigE) (q3 r hr) fun c _ => rfl⟩

set_option maxHeartbeats 4000000 in
theorem read_any (s : ByteArray) (hs : s.size ≤ maxLen) (w : World) :
    Calls Tryz.prog 13 #[.string s] w fun e w' => ∃ v, e = .returned (.tuple #[v, .int .i64 (readP s.data.toList).2.1, .int .i64 (readP s.data.toList).2.2]) ∧ EntsOwn w.heap.size w' (readP s.data.toList).1 v ∧ Below w.heap.size w w' := by
  have C1 : Hid (∀ W, Calls Tryz.prog 24 #[.string s] W fun e w' => ∃ v, e = .returned (.tuple #[v, .int .i64 ((parseP s.data.toList).2.1 : Nat), .int .i64 ((parseP s.data.toList).2.2 : Nat)]) ∧ RawsOwn W.heap.size w' (parseP s.data.toList).1 v ∧ Below W.heap.size W w') := parse_any s hs
  have hlen : (s.data.toList.length : Int) = (s.size : Int) := by rw [← Lib.size_eq]
  have hz : (parseP s.data.toList).2.1 = 0 → readP s.data.toList = checkP (s.size : Int) (parseP s.data.toList).1 := fun h => by rw [readP_good h, hlen]
  have hb := @readP_bad s.data.toList
  obtain ⟨S, hS⟩ : ∃ S, S = s.data.toList := ⟨_, rfl⟩
  rw [← hS] at C1 hz hb ⊢
  have CK : Hid (∀ (l : List Raw) vl W, RawsAt W vl l → Calls Tryz.prog 25 #[vl, .int .i64 (s.size : Int)] W fun e w' => ∃ v, e = .returned (.tuple #[v, .int .i64 (checkP (s.size : Int) l).2.1, .int .i64 (checkP (s.size : Int) l).2.2]) ∧ EntsOwn W.heap.size w' (checkP (s.size : Int) l).1 v ∧ Below W.heap.size W w') := fun l vl W h => check_any l vl _ W h
  obtain ⟨⟨R, E, A⟩, hP⟩ : ∃ x, x = parseP S := ⟨_, rfl⟩
  rw [← hP] at C1 hz hb
  simp only at C1 hz hb
  obtain ⟨X, hX⟩ : ∃ X, X = readP S := ⟨_, rfl⟩
  rw [← hX] at hz hb ⊢
  unfold maxLen at hs
  clear hS hP hX hlen
  by_cases hE : E = 0
  · subst hE
    obtain rfl := hz rfl
    clear hz hb
    go_enter Tryz.func13, Tryz.ntmps13
    go_wp2_with fail
    refine (C1.out _).mono ?_
    rintro e w1 ⟨v, rfl, ho1, hb1⟩
    have HR : Hid (RawsAt w1 v R) := raws_sl7 ho1
    have HB : Hid (Below w.heap.size w w1) := hb1
    clear ho1 hb1
    go_wp2_with fail
    refine (CK.out _ _ _ HR.out).mono ?_
    rintro e w2 ⟨v2, rfl, ho2, hb2⟩
    have HO : Hid (EntsOwn w.heap.size w2 (checkP (s.size : Int) R).1 v2) := gown_base ho2 HB.out.size
    have HB2 : Hid (Below w.heap.size w w2) := HB.out.trans (hb2.mono HB.out.size)
    clear ho2 hb2
    go_wp2_with fail
    go_ret3
    exact ⟨_, rfl, HO.out, HB2.out⟩
  · obtain rfl := hb hE
    have hne : ((E : Int) != 0) = true := by simp; omega
    clear hz hb hE
    go_enter Tryz.func13, Tryz.ntmps13
    go_wp2_with fail
    refine (C1.out _).mono ?_
    rintro e w1 ⟨v, rfl, ho1, hb1⟩
    have HB : Hid (Below w.heap.size w w1) := hb1
    clear ho1 hb1
    go_wp2_with fail
    go_ret3
    exact ⟨_, rfl, World.ownsRow_nil _ _ _ _, HB.out⟩

def ex7A : List UInt8 := [57, 32, 100, 112, 111, 114, 116, 32, 56, 48, 32, 45, 62, 32, 112, 111, 114, 116, 32, 49, 10, 57, 32, 115, 114, 99, 32, 49, 48, 46, 48, 46, 48, 46, 48, 47, 56, 32, 45, 62, 32, 112, 111, 114, 116, 32, 50, 10, 100, 101, 102, 97, 117, 108, 116, 32, 45, 62, 32, 100, 114, 111, 112]
def ex7B : List UInt8 := [49, 32, 115, 114, 99, 32, 49, 46, 50, 46, 51, 46, 50, 53, 54, 32, 45, 62, 32, 100, 114, 111, 112]
def ex7E : List Ent := [⟨false, 9, 1, 0, 0, 0, 0, 0, 65535, 80, 80, -1⟩, ⟨false, 9, 2, 167772160, 8, 0, 0, 0, 65535, 0, 65535, -1⟩, ⟨true, 0, 0, 0, 0, 0, 0, 0, 0, 0, 0, 0⟩]
def ex7H : List Int := [10, 0, 0, 1, 0, 0, 0, 0, 0, 0, 0, 80, 0]
def ex7K : List Int := [10, 0, 0, 1, 0, 0, 0, 0, 0, 0, 0, 81, 0]
theorem ex7_read : readP ex7A = (ex7E, 0, 0) := by kernel_rfl
theorem ex7_bad : readP ex7B = ([], 10, 12) := by kernel_rfl
theorem ex7_one : saysT (applyT ex7H) ex7E = (1, true) := by kernel_rfl
theorem ex7_two : saysT (applyT ex7K) ex7E = (2, true) := by kernel_rfl
theorem ex7H_byt : Byt ex7H := ⟨rfl, fun k => by
  rcases Nat.lt_or_ge k 13 with h | h
  · rcases (show k = 0 ∨ k = 1 ∨ k = 2 ∨ k = 3 ∨ k = 4 ∨ k = 5 ∨ k = 6 ∨ k = 7 ∨ k = 8 ∨ k = 9 ∨ k = 10 ∨ k = 11 ∨ k = 12 by omega) with h | h | h | h | h | h | h | h | h | h | h | h | h <;> subst h <;> decide
  · rw [List.getD_eq_getElem?_getD, List.getElem?_eq_none h]; decide⟩
theorem ex7K_byt : Byt ex7K := ⟨rfl, fun k => by
  rcases Nat.lt_or_ge k 13 with h | h
  · rcases (show k = 0 ∨ k = 1 ∨ k = 2 ∨ k = 3 ∨ k = 4 ∨ k = 5 ∨ k = 6 ∨ k = 7 ∨ k = 8 ∨ k = 9 ∨ k = 10 ∨ k = 11 ∨ k = 12 by omega) with h | h | h | h | h | h | h | h | h | h | h | h | h <;> subst h <;> decide
  · rw [List.getD_eq_getElem?_getD, List.getElem?_eq_none h]; decide⟩
theorem ex7_32 : ∀ x ∈ ex7E, ent32 x := fun x hx => by
  simp only [ex7E, List.mem_cons, List.not_mem_nil, or_false] at hx
  rcases hx with rfl | rfl | rfl <;> exact ⟨⟨by decide, by decide⟩, ⟨by decide, by decide⟩⟩

end Go.Proofs.YtnbklmmampdbfaaGreatDoor
namespace Go.Proofs.YtnbklmmampdbfaaGreatDoor
open Go.ChangeShapes Go.WideShapes Go.ChangeAt Go.WideMaps Go.WideElems Go.RowKit
set_option maxRecDepth 20000

theorem bytes_of {H : Type} {enc : TypeId × Value → H} {W : World} {base : Nat} {spare : Nat → Bool} {held : Bool} {fuel : Nat} {cs : List Value} {x : DataW H × List MemPlace} (hl : cs.length = 13)
    (h : DataW.trod enc Tryz.prog W base spare held fuel 31 cs = some x) : ∃ L : List Int, cs = L.map (Value.int .u8) ∧ Byt L := by
  have c5 : Tryz.prog.cellsOf 5 = 1 := by kernel_rfl
  obtain ⟨xs, m, rfl, hx, hlen, hn, hel⟩ := DataW.trod_array Tryz.underlying31 h
  have each : ∀ i, i < 13 → ∃ z : Int, cs[i]? = some (.int .u8 z) ∧ 0 ≤ z ∧ z < 256 := fun i hi => by
    have h1 := hel i hi
    rw [List.getElem?_eq_getElem (show i < xs.length by omega), c5, Nat.mul_one] at h1
    obtain ⟨z, ez, _, wz⟩ := DataW.trod_int Tryz.underlying5 h1
    refine ⟨z, ?_, ?_⟩
    · have := congrArg (·[0]?) ez
      simpa [List.getElem?_take, List.getElem?_drop] using this
    · have := bounds_u8 wz
      omega
  refine ⟨cs.map intOf, ?_, by simp [hl], fun k => ?_⟩
  · apply List.ext_getElem?
    intro k
    rcases Nat.lt_or_ge k 13 with hk | hk
    · obtain ⟨z, hz, _⟩ := each k hk
      simp only [List.getElem?_map, hz]
      rfl
    · rw [List.getElem?_eq_none (by omega), List.getElem?_eq_none (by simpa [hl] using hk)]
  · rcases Nat.lt_or_ge k 13 with hk | hk
    · obtain ⟨z, hz, hb⟩ := each k hk
      rw [List.getD, List.getElem?_map, hz]
      exact hb
    · rw [List.getD, List.getElem?_eq_none (by simpa [hl] using hk)]
      decide

/-- A header that comes in: thirteen bytes. -/
theorem open_head {H : Type} {enc : TypeId × Value → H} {W : World} {r : Reach} {b0 base : Nat} {spare : Nat → Bool} {held : Bool} {v : Value} {d : DataW H} {p : List MemPlace}
    (hok : Value.okWide Tryz.prog W r b0 31 v) (h : DataW.Trod enc Tryz.prog W base spare held 31 v d p) :
    ∃ L : List Int, v = .agg (hv L) ∧ Byt L := by
  have c : Tryz.prog.cellsOf 31 = 13 := by kernel_rfl
  simp only [Value.okWide, Tryz.underlying31] at hok
  obtain ⟨cs, rfl, hsz, _⟩ := hok
  obtain ⟨fuel, hf⟩ := h
  obtain ⟨L, hL, hb⟩ := bytes_of (by simp only [Value.cells, Array.length_toList]; rw [hsz, c]) hf
  refine ⟨L, ?_, hb⟩
  unfold hv
  rw [← hL]
  simp [Value.cells]


theorem ent_of {H : Type} {enc : TypeId × Value → H} {W : World} {base : Nat} {spare : Nat → Bool} {held : Bool} (fuel : Nat) (cs : List Value) (x : DataW H × List MemPlace) (hl : cs.length = 12)
    (h : DataW.trod enc Tryz.prog W base spare held fuel 35 cs = some x) : ∃ e : Ent, cs = (entV e).toList ∧ ((0 ≤ e.src ∧ e.src < 4294967296) ∧ (0 ≤ e.dst ∧ e.dst < 4294967296)) ∧ (wfN e.prio ∧ wfN e.srcBits ∧ wfN e.dstBits ∧ wfN e.slow ∧ wfN e.shigh ∧ wfN e.dlow ∧ wfN e.dhigh ∧ wfN e.proto ∧ wfN e.action) := by
  have c3 : Tryz.prog.cellsOf 3 = 1 := by kernel_rfl
  have c4 : Tryz.prog.cellsOf 4 = 1 := by kernel_rfl
  have cu : Tryz.prog.cellsOf 33 = 1 := by kernel_rfl
  obtain ⟨xs, n, _, _, _, hxl, hf⟩ := DataW.trod_struct Tryz.underlying35 h
  obtain ⟨b0, h0⟩ := field_bool Tryz.underlying4 c4 (hf 0 _ rfl) (xs_some hxl (by decide))
  obtain ⟨n1, h1, w1⟩ := field_int Tryz.underlying3 c3 (hf 1 _ rfl) (xs_some hxl (by decide))
  obtain ⟨n2, h2, w2⟩ := field_int Tryz.underlying33 cu (hf 2 _ rfl) (xs_some hxl (by decide))
  obtain ⟨n3, h3, w3⟩ := field_int Tryz.underlying3 c3 (hf 3 _ rfl) (xs_some hxl (by decide))
  obtain ⟨n4, h4, w4⟩ := field_int Tryz.underlying33 cu (hf 4 _ rfl) (xs_some hxl (by decide))
  obtain ⟨n5, h5, w5⟩ := field_int Tryz.underlying3 c3 (hf 5 _ rfl) (xs_some hxl (by decide))
  obtain ⟨n6, h6, w6⟩ := field_int Tryz.underlying3 c3 (hf 6 _ rfl) (xs_some hxl (by decide))
  obtain ⟨n7, h7, w7⟩ := field_int Tryz.underlying3 c3 (hf 7 _ rfl) (xs_some hxl (by decide))
  obtain ⟨n8, h8, w8⟩ := field_int Tryz.underlying3 c3 (hf 8 _ rfl) (xs_some hxl (by decide))
  obtain ⟨n9, h9, w9⟩ := field_int Tryz.underlying3 c3 (hf 9 _ rfl) (xs_some hxl (by decide))
  obtain ⟨n10, h10, w10⟩ := field_int Tryz.underlying3 c3 (hf 10 _ rfl) (xs_some hxl (by decide))
  obtain ⟨n11, h11, w11⟩ := field_int Tryz.underlying3 c3 (hf 11 _ rfl) (xs_some hxl (by decide))
  have u2 := bounds_u32 w2
  have u4 := bounds_u32 w4
  refine ⟨⟨b0, n1, n11, n2, n3, n4, n5, n6, n7, n8, n9, n10⟩, ?_, ⟨⟨show 0 ≤ n2 by omega, show n2 < 4294967296 by omega⟩, ⟨show 0 ≤ n4 by omega, show n4 < 4294967296 by omega⟩⟩, w1, w3, w5, w6, w7, w8, w9, w10, w11⟩
  match cs, hl with
  | [a0, a1, a2, a3, a4, a5, a6, a7, a8, a9, a10, a11], _ =>
    obtain rfl : a0 = .bool b0 := by simpa using h0
    obtain rfl : a1 = .int .i64 n1 := by simpa using h1
    obtain rfl : a2 = .int .u32 n2 := by simpa using h2
    obtain rfl : a3 = .int .i64 n3 := by simpa using h3
    obtain rfl : a4 = .int .u32 n4 := by simpa using h4
    obtain rfl : a5 = .int .i64 n5 := by simpa using h5
    obtain rfl : a6 = .int .i64 n6 := by simpa using h6
    obtain rfl : a7 = .int .i64 n7 := by simpa using h7
    obtain rfl : a8 = .int .i64 n8 := by simpa using h8
    obtain rfl : a9 = .int .i64 n9 := by simpa using h9
    obtain rfl : a10 = .int .i64 n10 := by simpa using h10
    obtain rfl : a11 = .int .i64 n11 := by simpa using h11
    rfl
/-- Numbers of an entry that comes in. -/
def wfE (e : Ent) : Prop := wfN e.prio ∧ wfN e.srcBits ∧ wfN e.dstBits ∧ wfN e.slow ∧ wfN e.shigh ∧ wfN e.dlow ∧ wfN e.dhigh ∧ wfN e.proto ∧ wfN e.action
theorem open_entry {H : Type} {enc : TypeId × Value → H} {W : World} {r : Reach} {b0 base : Nat} {spare : Nat → Bool} {held : Bool} {v : Value} {d : DataW H} {p : List MemPlace}
    (hok : Value.okWide Tryz.prog W r b0 35 v) (h : DataW.Trod enc Tryz.prog W base spare held 35 v d p) :
    ∃ e : Ent, v = .agg (entV e) ∧ ((0 ≤ e.src ∧ e.src < 4294967296) ∧ (0 ≤ e.dst ∧ e.dst < 4294967296)) ∧ wfE e := by
  have c : Tryz.prog.cellsOf 35 = 12 := by kernel_rfl
  simp only [Value.okWide, Tryz.underlying35] at hok
  obtain ⟨cs, rfl, hsz, _⟩ := hok
  obtain ⟨fuel, hf⟩ := h
  obtain ⟨e, he, h1, h2⟩ := ent_of fuel _ _ (by simp only [Value.cells, Array.length_toList]; rw [hsz, c]) hf
  refine ⟨e, ?_, h1, h2⟩
  congr 1
  simp only [Value.cells] at he
  exact Array.ext' he
/-- Entries that come in. -/
theorem open_ents {H : Type} {enc : TypeId × Value → H} {W : World} {r : Reach} {b0 base : Nat} {spare : Nat → Bool} {held : Bool} {v : Value} {d : DataW H} {p : List MemPlace}
    (hok : Value.okWide Tryz.prog W r b0 22 v) (h : DataW.Trod enc Tryz.prog W base spare held 22 v d p) :
    ∃ l, GSl EntE entV W v l ∧ ∀ e ∈ l, ((0 ≤ e.src ∧ e.src < 4294967296) ∧ (0 ≤ e.dst ∧ e.dst < 4294967296)) ∧ wfE e := by
  obtain ⟨fuel, hf⟩ := h
  have hv1 : v.cells.toList = [v] := by
    simp only [Value.okWide, Cell.okWide, Cell.ok, Tryz.underlying22] at hok
    cases v <;> simp_all [Value.cells]
  rw [hv1] at hf
  have hin : Inhabited Ent := ⟨⟨false, 0, 0, 0, 0, 0, 0, 0, 0, 0, 0, 0⟩⟩
  exact open_any (E := EntE) EntOk entV (fun _ => rfl) (fun e => ((0 ≤ e.src ∧ e.src < 4294967296) ∧ (0 ≤ e.dst ∧ e.dst < 4294967296)) ∧ wfE e) (fun fuel cs x h1 h2 => ent_of fuel cs x h1 h2) hf

theorem pairs_of {H : Type} {enc : TypeId × Value → H} {W : World} {base : Nat} {spare : Nat → Bool} {held : Bool} {fuel n : Nat} {t s : TypeId} {f0 f1 : Field} {cs : List Value} {zs : List (Int × Int)} {ps : List MemPlace}
    (ht : Tryz.prog.underlying t = some (.array n s)) (hs : Tryz.prog.underlying s = some (.struct #[f0, f1])) (c2 : Tryz.prog.cellsOf s = 2) (e0 : f0.type = 3) (e1 : f1.type = 3) (o0 : f0.offset = 0) (o1 : f1.offset = 1)
    (h : DataW.trod enc Tryz.prog W base spare held fuel t cs = some (.agg (zs.map fun z => .agg [.lit (.int .i64 z.1), .lit (.int .i64 z.2)]), ps)) (i : Nat) (hi : i < n) :
    ∃ z, zs[i]? = some z ∧ cs[2 * i]? = some (.int .i64 z.1) ∧ cs[2 * i + 1]? = some (.int .i64 z.2) := by
  have c3 : Tryz.prog.cellsOf 3 = 1 := by kernel_rfl
  obtain ⟨xs, m, rfl, hx, hlen, hn, hel⟩ := DataW.trod_array ht h
  have hi' : i < xs.length := by omega
  have h1 := hel i hi
  rw [List.getElem?_eq_getElem hi', c2] at h1
  obtain ⟨y0, y1, k, hy, _, t0, t1⟩ := trod_struct2 hs h1
  rw [e0, c3, o0] at t0
  rw [e1, c3, o1] at t1
  obtain ⟨a, ca, rfl, _⟩ := DataW.trod_int Tryz.underlying3 t0
  obtain ⟨b, cb, rfl, _⟩ := DataW.trod_int Tryz.underlying3 t1
  simp only [Prod.mk.injEq, DataW.agg.injEq] at hx
  have hm : (zs.map fun z => (DataW.agg [.lit (.int .i64 z.1), .lit (.int .i64 z.2)] : DataW H))[i]? = (xs.map (·.1))[i]? := by rw [hx.1]
  rw [List.getElem?_map, List.getElem?_map, List.getElem?_eq_getElem hi', hy] at hm
  simp only [Option.map_some, Option.map_eq_some_iff, DataW.agg.injEq, List.cons.injEq, DataW.lit.injEq, Lit.int.injEq, true_and, and_true] at hm
  obtain ⟨z, hz, za, zb⟩ := hm
  have ga : cs[2 * i]? = some (.int .i64 a) := by
    have := congrArg (·[0]?) ca
    simpa [List.getElem?_take, List.getElem?_drop, Nat.mul_comm] using this
  have gb : cs[2 * i + 1]? = some (.int .i64 b) := by
    have := congrArg (·[0]?) cb
    simpa [List.getElem?_take, List.getElem?_drop, Nat.mul_comm] using this
  exact ⟨z, hz, by rw [za]; exact ga, by rw [zb]; exact gb⟩


abbrev laid1 : List (String × DataW Unit) := [("milepost/head.places", Rows.laid_milepost_head_places)]
theorem of_laid1 {W : World} (h : laidMetH Tryz.prog laid1 W) : Places W := by
  rw [MakeChecks.laidMetH_plain _ _ _ (by kernel_rfl)] at h
  obtain ⟨ps, ⟨g3, t3, cs3, f3, p3, q3, hg3, ht3, hv3, hd3, _, _⟩, _, _⟩ := h
  obtain rfl := Option.some.inj ((show Tryz.prog.globalNamed "milepost/head.places" = some 0 by kernel_rfl).symm.trans hg3)
  obtain rfl := Option.some.inj ((show (Tryz.prog.globals[0]?).map (·.type) = some 163 by kernel_rfl).symm.trans ht3)
  intro k hk
  rw [World.var?_cell hg3 hv3 k]
  obtain ⟨z, hz, h0, h1⟩ := pairs_of (zs := [(0, 32), (32, 32), (64, 16), (80, 16), (96, 8)]) Tryz.underlying163 Tryz.underlying162 (by kernel_rfl) rfl rfl rfl rfl hd3 (k / 2) (by omega)
  rw [← Array.getElem?_toList]
  rcases (show k = 0 ∨ k = 1 ∨ k = 2 ∨ k = 3 ∨ k = 4 ∨ k = 5 ∨ k = 6 ∨ k = 7 ∨ k = 8 ∨ k = 9 by omega) with h | h | h | h | h | h | h | h | h | h <;> subst h <;> simp at hz <;> subst hz <;> first | exact h0 | exact h1
end Go.Proofs.YtnbklmmampdbfaaGreatDoor
