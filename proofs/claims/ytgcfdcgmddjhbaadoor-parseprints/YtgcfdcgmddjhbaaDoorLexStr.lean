import Derived.Test.YtgcfdcgmddjhbaaDoorBase
import Derived.Test.YtgcfdcgmddjhbaaDoorLexMath
import Derived.Lib.Bytealg
import Derived.Lib.UnsafeStr
import Derived.Lib.BufferWrite
import Derived.Laws.MakeOwn
namespace Go.Proofs.YtgcfdcgmddjhbaaDoor
open Go Go.RowKit
set_option maxRecDepth 20000

/-- The extern that finds a byte. -/
theorem extern_idx (s : ByteArray) (c : Int) (w : World) : (callFunc 38 #[.string s, .int .u8 c]).run Tryd.prog w = .ok (.value (.int .i64 (Lib.indexByte s.data.toList c.toNat.toUInt8))) w := by
  rw [run_callFunc_extern (e := Extern.BytealgIndexByte.indexByte) Tryd.func38 (by kernel_rfl) (by kernel_rfl) (by kernel_rfl) (by kernel_rfl), Lib.run_indexByteString]
  rfl

set_option maxHeartbeats 400000 in
theorem idx_any (s : ByteArray) (c : Int) (w : World) :
    Calls Tryd.prog 22 #[.string s, .int .u8 c] w fun e w' => e = .returned (.int .i64 (Lib.indexByte s.data.toList c.toNat.toUInt8)) ∧ w' = w := by
  have h1 : ∀ W, (callFunc 38 #[.string s, .int .u8 c]).run Tryd.prog W = .ok (.value (.int .i64 (Lib.indexByte s.data.toList c.toNat.toUInt8))) W := extern_idx s c
  have h2 : ∀ W, Calls Tryd.prog 31 #[.string s, .int .u8 c] W fun e w' => e = .returned (.int .i64 (Lib.indexByte s.data.toList c.toNat.toUInt8)) ∧ w' = W := fun W => by
    go_enter Tryd.func31, Tryd.ntmps31
    go_wp2
    go_ret
    exact ⟨rfl, rfl⟩
  go_enter Tryd.func22, Tryd.ntmps22
  go_wp2_with fail
  refine (h2 _).mono ?_
  rintro e w1 ⟨rfl, rfl⟩
  go_wp2_with fail
  go_ret
  exact ⟨rfl, rfl⟩
theorem idx_iff (l : List UInt8) (c : UInt8) : 0 ≤ Lib.indexByte l c ↔ c ∈ l := by
  induction l with
  | nil => simp [Lib.indexByte]
  | cons b l ih =>
    have := Lib.indexByte_ge l c
    unfold Lib.indexByte
    by_cases h : (b == c) = true
    · rw [if_pos h]
      have : b = c := by simpa using h
      simp [this]
    · rw [if_neg h]
      have hne : ¬ c = b := fun e => h (by simp [e])
      by_cases h2 : (Lib.indexByte l c == -1) = true
      · rw [if_pos h2]
        have h3 : Lib.indexByte l c = -1 := by simpa using h2
        rw [h3] at ih
        simp only [List.mem_cons, hne, false_or, ← ih]
      · rw [if_neg h2]
        have h3 : ¬ Lib.indexByte l c = -1 := by simpa using h2
        simp only [List.mem_cons, hne, false_or, ← ih]
        omega
/-- Where a byte that is there stands first. -/
theorem idx_take (l : List UInt8) (c : UInt8) (h : 0 ≤ Lib.indexByte l c) : Lib.indexByte l c = ((l.takeWhile fun b => b != c).length : Nat) := by
  induction l with
  | nil => simp [Lib.indexByte] at h
  | cons b l ih =>
    have hge := Lib.indexByte_ge l c
    unfold Lib.indexByte at h ⊢
    by_cases h1 : (b == c) = true
    · rw [if_pos h1]
      have : b = c := by simpa using h1
      simp [this]
    · rw [if_neg h1] at h ⊢
      by_cases h2 : (Lib.indexByte l c == -1) = true
      · rw [if_pos h2] at h; omega
      · rw [if_neg h2]
        have h3 : ¬ Lib.indexByte l c = -1 := by simpa using h2
        have hb : (b != c) = true := by simpa using h1
        rw [List.takeWhile_cons, if_pos hb, List.length_cons, ih (by omega)]
        omega
theorem idx_none (l : List UInt8) (c : UInt8) (h : ¬ 0 ≤ Lib.indexByte l c) : (l.takeWhile fun b => b != c).length = l.length := by
  rw [idx_iff] at h
  have := takeWhile_append_stop (fun b => b != c) [] (fun y hy => by simp at hy) l fun b hb => by
    have : b ≠ c := fun e => h (e ▸ hb)
    simpa using this
  rw [List.append_nil] at this
  rw [this]

def abcL : List UInt8 := [97, 98, 99, 100, 101, 102, 103, 104, 105, 106, 107, 108, 109, 110, 111, 112, 113, 114, 115, 116, 117, 118, 119, 120, 121, 122]
def digL : List UInt8 := [48, 49, 50, 51, 52, 53, 54, 55, 56, 57]
theorem all256 (p : UInt8 → Bool) (h : (List.range 256).all (fun n => p (UInt8.ofNat n)) = true) (c : UInt8) : p c = true := by
  rw [List.all_eq_true] at h
  have := h c.toNat (by rw [List.mem_range]; exact c.toNat_lt)
  rwa [UInt8.ofNat_toNat] at this
theorem abc_let (c : UInt8) : decide (0 ≤ Lib.indexByte abcL c) = isLet c := by
  have := all256 (fun c => decide (0 ≤ Lib.indexByte abcL c) == isLet c) (by kernel_rfl) c
  simpa using this
theorem dig_dig (c : UInt8) : decide (0 ≤ Lib.indexByte digL c) = isDig c := by
  have := all256 (fun c => decide (0 ≤ Lib.indexByte digL c) == isDig c) (by kernel_rfl) c
  simpa using this

theorem tw_in (q : UInt8 → Bool) : ∀ (S : List UInt8) (k : Nat), k < (S.takeWhile q).length → ∃ b, S[k]? = some b ∧ q b = true
  | [], k, h => by simp at h
  | c :: S, k, h => by
    rw [List.takeWhile_cons] at h
    split at h
    · rename_i hc
      cases k with
      | zero => exact ⟨c, rfl, hc⟩
      | succ k =>
        obtain ⟨b, h1, h2⟩ := tw_in q S k (by simpa using h)
        exact ⟨b, by simpa using h1, h2⟩
    · simp at h
theorem tw_out (q : UInt8 → Bool) (S : List UInt8) (b : UInt8) (h : S[(S.takeWhile q).length]? = some b) : q b = false :=
  takeWhile_stop q S b (by rw [List.head?_drop]; exact h)
theorem byte_beq (b : UInt8) (c : UInt8) : (((b.toNat : Int)) == (c.toNat : Int)) = (b == c) := by
  rw [Bool.eq_iff_iff, beq_iff_eq, beq_iff_eq]
  constructor
  · intro h; exact UInt8.toNat_inj.1 (by exact_mod_cast h)
  · rintro rfl; rfl
theorem byte_q (s : ByteArray) (k : Nat) (hk : k < s.size) : s.data.toList[k]? = some s[k] := by
  rw [List.getElem?_eq_getElem (by simpa using hk)]; rfl

set_option maxHeartbeats 1000000 in
theorem row_any (s : ByteArray) (hs : s.size ≤ maxLen) (kind : ByteArray) (q : UInt8 → Bool) (hq : ∀ c, decide (0 ≤ Lib.indexByte kind.data.toList c) = q c) (w : World) :
    Calls Tryd.prog 23 #[.string s, .string kind] w fun e w' => e = .returned (.int .i64 ((s.data.toList.takeWhile q).length : Nat)) ∧ w' = w := by
  unfold maxLen at hs
  obtain ⟨T, hT⟩ : ∃ T, T = (s.data.toList.takeWhile q).length := ⟨_, rfl⟩
  have hTs : T ≤ s.size := by
    rw [hT, Lib.size_eq]; exact takeWhile_le q _
  have HIN : Hid (∀ k (hk : k < s.size), k < T → q s[k] = true) := fun k hk hkT => by
    obtain ⟨b, h1, h2⟩ := tw_in q s.data.toList k (by omega)
    rw [byte_q s k hk] at h1
    obtain rfl : s[k] = b := by simpa using h1
    exact h2
  have HOUT : Hid (∀ (hk : T < s.size), q s[T] = false) := fun hk => tw_out q s.data.toList _ (by rw [← hT]; exact byte_q s T hk)
  have HI : Hid (∀ (c : UInt8) W, Calls Tryd.prog 22 #[.string kind, .int .u8 (c.toNat : Int)] W fun e w' => e = .returned (.int .i64 (Lib.indexByte kind.data.toList c)) ∧ w' = W) := fun c W => by
    have := idx_any kind (c.toNat : Int) W
    rwa [show ((c.toNat : Int)).toNat.toUInt8 = c by simp] at this
  have HQ : Hid (∀ c, decide (0 ≤ Lib.indexByte kind.data.toList c) = q c) := hq
  rw [← hT]
  clear hT hq
  go_enter Tryd.func23, Tryd.ntmps23
  go_wp2_with fail
  go_loop [5] (fun n => ∃ k : Nat, k ≤ T ∧ n = .int .i64 (k : Int)) (fun n => T - (intOf n).toNat)
  case atStart => exact ⟨0, Nat.zero_le _, rfl⟩
  case round =>
    obtain ⟨k, hk, rfl⟩ := hrel
    by_cases hin : k < s.size
    · have hix : ∀ W, (Instr.index 9 (.string s) (.int .i64 (k : Int))).run Tryd.prog W = .ok (.int .u8 (s[k].toNat : Int)) W := fun W => by
        simp [go_sem, Tryd.underlying9, hin]
      obtain ⟨c, hc⟩ : ∃ c, c = s[k] := ⟨_, rfl⟩
      have C1 : Hid (∀ W, Calls Tryd.prog 22 #[.string kind, .int .u8 (c.toNat : Int)] W fun e w' => e = .returned (.int .i64 (Lib.indexByte kind.data.toList c)) ∧ w' = W) := HI.out c
      have hd := HQ.out c
      obtain ⟨J, hJ⟩ : ∃ J, J = Lib.indexByte kind.data.toList c := ⟨_, rfl⟩
      rw [← hJ] at C1 hd
      rw [← hc] at hix
      have hin' : (k : Int) < (s.size : Int) := by omega
      by_cases hkT : k < T
      · have hqc : q c = true := by rw [hc]; exact HIN.out k hin hkT
        have hJ0 : 0 ≤ J := by rw [hqc] at hd; exact of_decide_eq_true hd
        clear hd hqc hJ hc hin
        go_wp2_with fail
        refine (C1.out _).mono ?_
        rintro e w1 ⟨rfl, rfl⟩
        go_wp2_with fail
        go_round
        case rel => exact ⟨k + 1, by omega, by go_num⟩
        case measure => simp [intOf]; omega
      · have hkT' : k = T := by omega
        subst hkT'
        have hqc : q c = false := by rw [hc]; exact HOUT.out hin
        have hJ0 : ¬ 0 ≤ J := by rw [hqc] at hd; exact of_decide_eq_false hd
        clear hd hqc hJ hc hin hkT
        go_wp2_with fail
        refine (C1.out _).mono ?_
        rintro e w1 ⟨rfl, rfl⟩
        go_wp2_with fail
        go_ret
        exact ⟨rfl, rfl⟩
    · have hin' : (s.size : Int) ≤ (k : Int) := by omega
      have hkT' : k = T := by omega
      subst hkT'
      clear hin
      go_wp2_with fail
      go_ret
      exact ⟨rfl, rfl⟩

set_option maxHeartbeats 1000000 in
theorem remark_any (s : ByteArray) (w : World) :
    Calls Tryd.prog 15 #[.string s] w fun e w' => e = .returned (.int .i64 ((s.data.toList.takeWhile notEnd).length : Nat)) ∧ w' = w := by
  have C1 : Hid (∀ W, Calls Tryd.prog 22 #[.string s, .int .u8 10] W fun e w' => e = .returned (.int .i64 (Lib.indexByte s.data.toList 10)) ∧ w' = W) := fun W => idx_any s 10 W
  have h1 : 0 ≤ Lib.indexByte s.data.toList 10 → Lib.indexByte s.data.toList 10 = ((s.data.toList.takeWhile notEnd).length : Nat) := idx_take s.data.toList 10
  have h2 : ¬ 0 ≤ Lib.indexByte s.data.toList 10 → (s.data.toList.takeWhile notEnd).length = s.size := fun h => by
    rw [Lib.size_eq]; exact idx_none s.data.toList 10 h
  obtain ⟨J, hJ⟩ : ∃ J, J = Lib.indexByte s.data.toList 10 := ⟨_, rfl⟩
  obtain ⟨T, hT⟩ : ∃ T, T = (s.data.toList.takeWhile notEnd).length := ⟨_, rfl⟩
  rw [← hJ] at C1 h1 h2
  rw [← hT] at h1 h2 ⊢
  clear hJ hT
  by_cases h : 0 ≤ J
  · have := h1 h
    subst this
    clear h1 h2
    go_enter Tryd.func15, Tryd.ntmps15
    go_wp2_with fail
    refine (C1.out _).mono ?_
    rintro e w1 ⟨rfl, rfl⟩
    go_wp2_with fail
    go_ret
    exact ⟨rfl, rfl⟩
  · have := h2 h
    subst this
    clear h1 h2
    go_enter Tryd.func15, Tryd.ntmps15
    go_wp2_with fail
    refine (C1.out _).mono ?_
    rintro e w1 ⟨rfl, rfl⟩
    go_wp2_with fail
    go_ret
    exact ⟨rfl, rfl⟩
end Go.Proofs.YtgcfdcgmddjhbaaDoor
