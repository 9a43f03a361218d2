import Derived.Test.YtgcfdcgmddjhbaaDoorParsePrint
import Derived.Test.YtgcfdcgmddjhbaaDoorRwBase
import Derived.OwnWalk
namespace Go.Proofs.YtgcfdcgmddjhbaaDoor
open Go Go.RowKit
set_option maxRecDepth 20000

theorem one_byte (w : World) (b : UInt8) : (convert 37 9 (.slice (some ⟨w.heap.size, 0, none⟩) 1 1)).run Tryd.prog (w.alloc (.cells #[.int .u8 (b.toNat : Int)] 5)) = .ok (.string ⟨#[b]⟩) (w.alloc (.cells #[.int .u8 (b.toNat : Int)] 5)) := by
  have := run_convert_bytes_back (w.alloc (.cells #[.int .u8 (b.toNat : Int)] 5)) 37 9 5 ⟨w.heap.size, 0, none⟩ 1 [b] Tryd.underlying37 Tryd.underlying5 Tryd.underlying9 (fun j hj => by
    obtain rfl : j = 0 := by simp at hj; omega
    show (w.alloc _).cell? ((⟨w.heap.size, 0, none⟩ : Addr).add 0) = _
    rw [show ((⟨w.heap.size, 0, none⟩ : Addr).add 0) = ⟨w.heap.size, 0, none⟩ from rfl, cell_of_row _ _ _ _ _ _ (heap_new _ _ _ rfl)]
    rfl)
  exact this
theorem str_add (a b : List UInt8) : (⟨a.toArray⟩ ++ ⟨b.toArray⟩ : ByteArray) = ⟨(a ++ b).toArray⟩ := by
  apply ByteArray.ext
  simp

set_option maxHeartbeats 8000000 in
set_option maxRecDepth 100000 in
theorem digit_any (n : Int) (h0 : 0 ≤ n) (h9 : n < 10) (w : World) :
    Calls Tryd.prog 9 #[.int .i64 n] w fun e w' => e = .returned (.string ⟨(decI n).toArray⟩) ∧ Below w.heap.size w w' := by
  rw [decI_digit h0 h9]
  rcases (show n = 0 ∨ n = 1 ∨ n = 2 ∨ n = 3 ∨ n = 4 ∨ n = 5 ∨ n = 6 ∨ n = 7 ∨ n = 8 ∨ n = 9 by omega) with h | h | h | h | h | h | h | h | h | h
  all_goals
    subst h
    clear h0 h9
  · have hcv := one_byte w 48
    rw [show (((48 : UInt8).toNat : Nat) : Int) = 48 from rfl] at hcv
    have hb : Below w.heap.size w (w.alloc (.cells #[.int .u8 48] 5)) := (Below.refl _ _).alloc (Nat.le_refl _) _
    go_enter Tryd.func9, Tryd.ntmps9
    go_wp2_with fail
    go_ret
    exact ⟨rfl, hb⟩
  · have hcv := one_byte w 49
    rw [show (((49 : UInt8).toNat : Nat) : Int) = 49 from rfl] at hcv
    have hb : Below w.heap.size w (w.alloc (.cells #[.int .u8 49] 5)) := (Below.refl _ _).alloc (Nat.le_refl _) _
    go_enter Tryd.func9, Tryd.ntmps9
    go_wp2_with fail
    go_ret
    exact ⟨rfl, hb⟩
  · have hcv := one_byte w 50
    rw [show (((50 : UInt8).toNat : Nat) : Int) = 50 from rfl] at hcv
    have hb : Below w.heap.size w (w.alloc (.cells #[.int .u8 50] 5)) := (Below.refl _ _).alloc (Nat.le_refl _) _
    go_enter Tryd.func9, Tryd.ntmps9
    go_wp2_with fail
    go_ret
    exact ⟨rfl, hb⟩
  · have hcv := one_byte w 51
    rw [show (((51 : UInt8).toNat : Nat) : Int) = 51 from rfl] at hcv
    have hb : Below w.heap.size w (w.alloc (.cells #[.int .u8 51] 5)) := (Below.refl _ _).alloc (Nat.le_refl _) _
    go_enter Tryd.func9, Tryd.ntmps9
    go_wp2_with fail
    go_ret
    exact ⟨rfl, hb⟩
  · have hcv := one_byte w 52
    rw [show (((52 : UInt8).toNat : Nat) : Int) = 52 from rfl] at hcv
    have hb : Below w.heap.size w (w.alloc (.cells #[.int .u8 52] 5)) := (Below.refl _ _).alloc (Nat.le_refl _) _
    go_enter Tryd.func9, Tryd.ntmps9
    go_wp2_with fail
    go_ret
    exact ⟨rfl, hb⟩
  · have hcv := one_byte w 53
    rw [show (((53 : UInt8).toNat : Nat) : Int) = 53 from rfl] at hcv
    have hb : Below w.heap.size w (w.alloc (.cells #[.int .u8 53] 5)) := (Below.refl _ _).alloc (Nat.le_refl _) _
    go_enter Tryd.func9, Tryd.ntmps9
    go_wp2_with fail
    go_ret
    exact ⟨rfl, hb⟩
  · have hcv := one_byte w 54
    rw [show (((54 : UInt8).toNat : Nat) : Int) = 54 from rfl] at hcv
    have hb : Below w.heap.size w (w.alloc (.cells #[.int .u8 54] 5)) := (Below.refl _ _).alloc (Nat.le_refl _) _
    go_enter Tryd.func9, Tryd.ntmps9
    go_wp2_with fail
    go_ret
    exact ⟨rfl, hb⟩
  · have hcv := one_byte w 55
    rw [show (((55 : UInt8).toNat : Nat) : Int) = 55 from rfl] at hcv
    have hb : Below w.heap.size w (w.alloc (.cells #[.int .u8 55] 5)) := (Below.refl _ _).alloc (Nat.le_refl _) _
    go_enter Tryd.func9, Tryd.ntmps9
    go_wp2_with fail
    go_ret
    exact ⟨rfl, hb⟩
  · have hcv := one_byte w 56
    rw [show (((56 : UInt8).toNat : Nat) : Int) = 56 from rfl] at hcv
    have hb : Below w.heap.size w (w.alloc (.cells #[.int .u8 56] 5)) := (Below.refl _ _).alloc (Nat.le_refl _) _
    go_enter Tryd.func9, Tryd.ntmps9
    go_wp2_with fail
    go_ret
    exact ⟨rfl, hb⟩
  · have hcv := one_byte w 57
    rw [show (((57 : UInt8).toNat : Nat) : Int) = 57 from rfl] at hcv
    have hb : Below w.heap.size w (w.alloc (.cells #[.int .u8 57] 5)) := (Below.refl _ _).alloc (Nat.le_refl _) _
    go_enter Tryd.func9, Tryd.ntmps9
    go_wp2_with fail
    go_ret
    exact ⟨rfl, hb⟩

set_option maxHeartbeats 8000000 in
set_option maxRecDepth 100000 in
theorem decimal_ind : ∀ (m : Nat) (n : Int), n.natAbs < m → okN n → ∀ w : World,
    Calls Tryd.prog 9 #[.int .i64 n] w fun e w' => e = .returned (.string ⟨(decI n).toArray⟩) ∧ Below w.heap.size w w'
  | 0, n, h, _, _ => by omega
  | m + 1, n, hm, hk, w => by
    by_cases h0 : 0 ≤ n
    · by_cases h9 : n < 10
      · exact digit_any n h0 h9 w
      · have hd : n.tdiv 10 = n / 10 := Int.tdiv_eq_ediv_of_nonneg h0
        have hr : n.tmod 10 = n % 10 := Int.tmod_eq_emod_of_nonneg h0
        have D1 : Hid (∀ W, Calls Tryd.prog 9 #[.int .i64 (n.tdiv 10)] W fun e w' => e = .returned (.string ⟨(decI (n.tdiv 10)).toArray⟩) ∧ Below W.heap.size W w') := decimal_ind m (n.tdiv 10) (by omega) (by unfold okN at hk ⊢; omega)
        have D2 : Hid (∀ W, Calls Tryd.prog 9 #[.int .i64 (n.tmod 10)] W fun e w' => e = .returned (.string ⟨(decI (n.tmod 10)).toArray⟩) ∧ Below W.heap.size W w') := decimal_ind m (n.tmod 10) (by omega) (by unfold okN at hk ⊢; omega)
        rw [decI_ten (by omega)]
        have hk1 := hk.1
        have hk2 := hk.2
        have h10 : 10 ≤ n := by omega
        obtain ⟨A, hA⟩ : ∃ A, A = decI (n.tdiv 10) := ⟨_, rfl⟩
        obtain ⟨B, hB⟩ : ∃ B, B = decI (n.tmod 10) := ⟨_, rfl⟩
        rw [← hA] at D1 ⊢
        rw [← hB] at D2 ⊢
        rw [hd] at D1
        rw [hr] at D2
        have hla : ¬ 9223372036854775807 < A.length + B.length := by
          have e1 := decI_len (n.tdiv 10) (by omega) (by omega)
          have e2 := decI_len (n.tmod 10) (by omega) (by omega)
          rw [← hA] at e1
          rw [← hB] at e2
          omega
        clear hA hB hk hm hd hr
        go_enter Tryd.func9, Tryd.ntmps9
        go_wp2_with fail
        refine (D1.out _).mono ?_
        rintro e w1 ⟨rfl, hb1⟩
        have B1 : Hid (Below w.heap.size w w1) := hb1
        clear hb1
        go_wp2_with fail
        refine (D2.out _).mono ?_
        rintro e w2 ⟨rfl, hb2⟩
        have B2 : Hid (Below w.heap.size w w2) := B1.out.trans (hb2.mono B1.out.size)
        clear hb2
        go_wp2_with fail
        go_ret
        refine ⟨?_, B2.out⟩
        rw [str_add]
        rfl
    · by_cases h10 : -10 < n
      · have D1 : Hid (∀ W, Calls Tryd.prog 9 #[.int .i64 (-n)] W fun e w' => e = .returned (.string ⟨(decI (-n)).toArray⟩) ∧ Below W.heap.size W w') := digit_any (-n) (by omega) (by omega)
        rw [decI_minus (by omega)]
        obtain ⟨A, hA⟩ : ∃ A, A = decI (-n) := ⟨_, rfl⟩
        rw [← hA] at D1 ⊢
        have hla : ¬ 9223372036854775807 < 1 + A.length := by
          have e1 := decI_len (-n) (by omega) (by omega)
          rw [← hA] at e1
          omega
        clear hA hk hm
        have h0' : n < 0 := by omega
        have h0'' : ¬ 10 ≤ n := by omega
        go_enter Tryd.func9, Tryd.ntmps9
        go_wp2_with fail
        refine (D1.out _).mono ?_
        rintro e w1 ⟨rfl, hb1⟩
        have B1 : Hid (Below w.heap.size w w1) := hb1
        clear hb1
        go_wp2_with fail
        go_ret
        refine ⟨?_, B1.out⟩
        exact congrArg (fun x => Ending.returned (.string x)) (str_add [45] A)
      · have hdd : n.tdiv 10 = -((-n) / 10) := by
          rw [show n.tdiv 10 = -((-n).tdiv 10) by rw [Int.neg_tdiv]; omega, Int.tdiv_eq_ediv_of_nonneg (by omega)]
        have hrr : n.tmod 10 = -((-n) % 10) := by
          rw [show n.tmod 10 = -((-n).tmod 10) by rw [Int.neg_tmod]; omega, Int.tmod_eq_emod_of_nonneg (by omega)]
        have D1 : Hid (∀ W, Calls Tryd.prog 9 #[.int .i64 (n.tdiv 10)] W fun e w' => e = .returned (.string ⟨(decI (n.tdiv 10)).toArray⟩) ∧ Below W.heap.size W w') := decimal_ind m (n.tdiv 10) (by omega) (by unfold okN at hk ⊢; omega)
        have D2 : Hid (∀ W, Calls Tryd.prog 9 #[.int .i64 (-(n.tmod 10))] W fun e w' => e = .returned (.string ⟨(decI (-(n.tmod 10))).toArray⟩) ∧ Below W.heap.size W w') := digit_any _ (by omega) (by omega)
        rw [decI_minusten (by omega)]
        have hk1 := hk.1
        have hk2 := hk.2
        have h0' : n < 0 := by omega
        have h0'' : ¬ 10 ≤ n := by omega
        have h0''' : ¬ -10 < n := h10
        have t1 : -922337203685477580 ≤ n.tdiv 10 := by omega
        have t2 : n.tdiv 10 ≤ 0 := by omega
        have t3 : -9 ≤ n.tmod 10 := by omega
        have t4 : n.tmod 10 ≤ 0 := by omega
        obtain ⟨A, hA⟩ : ∃ A, A = decI (n.tdiv 10) := ⟨_, rfl⟩
        obtain ⟨B, hB⟩ : ∃ B, B = decI (-(n.tmod 10)) := ⟨_, rfl⟩
        rw [← hA] at D1 ⊢
        rw [← hB] at D2 ⊢
        have hla : ¬ 9223372036854775807 < A.length + B.length := by
          have e1 := decI_len (n.tdiv 10) (by omega) (by omega)
          have e2 := decI_len (-(n.tmod 10)) (by omega) (by omega)
          rw [← hA] at e1
          rw [← hB] at e2
          omega
        clear hA hB hk hm hdd hrr
        go_enter Tryd.func9, Tryd.ntmps9
        go_wp2_with fail
        refine (D1.out _).mono ?_
        rintro e w1 ⟨rfl, hb1⟩
        have B1 : Hid (Below w.heap.size w w1) := hb1
        clear hb1
        go_wp2_with fail
        refine (D2.out _).mono ?_
        rintro e w2 ⟨rfl, hb2⟩
        have B2 : Hid (Below w.heap.size w w2) := B1.out.trans (hb2.mono B1.out.size)
        clear hb2
        go_wp2_with fail
        go_ret
        refine ⟨?_, B2.out⟩
        rw [str_add]
        rfl
theorem decimal_any (n : Int) (hn : okN n) (w : World) : Calls Tryd.prog 9 #[.int .i64 n] w fun e w' => e = .returned (.string ⟨(decI n).toArray⟩) ∧ Below w.heap.size w w' := decimal_ind (n.natAbs + 1) n (by omega) hn w
end Go.Proofs.YtgcfdcgmddjhbaaDoor
