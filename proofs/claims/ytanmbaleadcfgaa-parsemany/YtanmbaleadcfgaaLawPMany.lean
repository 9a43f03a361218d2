import Derived.Test.YtanmbaleadcfgaaParAwake
namespace Go.Proofs.Ytanmbaleadcfgaa
open Go Go.RowKit

theorem many_res (n : Nat) (hn : n ≤ 127) : (n ≤ 64 → ∃ l, parseP (printT (List.replicate n row1)) = (l, 0, 0) ∧ l.length = n) ∧ (64 < n → parseP (printT (List.replicate n row1)) = ([], 4, 640)) := by
  obtain ⟨h1, h2⟩ := parse_many n hn
  refine ⟨fun h => ?_, fun h => ?_⟩
  · obtain ⟨l, e, hl⟩ := h1 h
    exact ⟨l, by unfold parseP; rw [e], hl⟩
  · unfold parseP
    rw [h2 h]
theorem rep_more (i : Nat) : (⟨(printT (List.replicate i row1)).toArray⟩ : ByteArray) ++ (⟨#[49, 32, 45, 62, 32, 100, 114, 111, 112, 10]⟩ : ByteArray) = ⟨(printT (List.replicate (i + 1) row1)).toArray⟩ := by
  rw [print_add i 1]
  have e : printT (List.replicate 1 row1) = [49, 32, 45, 62, 32, 100, 114, 111, 112, 10] := by
    unfold printT
    simp [row1_text]
  rw [e]
  apply ByteArray.ext
  rw [ByteArray.data_append]
  simp
theorem raws_len {B : Nat} {w : World} {L : List Raw} {v : Value} (h : RawsOwn B w L v) : ∃ o cap, v = .slice o L.length cap := by
  obtain ⟨P, hP, hP2, _⟩ := h
  obtain ⟨o, cap, e⟩ := gown_slice hP2
  exact ⟨o, cap, by rw [e, ← hP, List.length_map]⟩
theorem and127 (n : Int) : ∃ m : Nat, m ≤ 127 ∧ bits .and .i64 n 127 = (m : Int) := by
  refine ⟨(BitVec.ofInt 64 n).toNat &&& 127, Nat.and_le_right, ?_⟩
  have h2 : (BitVec.ofInt 64 (127 : Int)).toNat = 127 := by decide
  have h3 : (BitVec.ofInt 64 n).toNat &&& 127 ≤ 127 := Nat.and_le_right
  show IntKind.i64.wrap ((BitVec.ofInt 64 n &&& BitVec.ofInt 64 (127 : Int)).toNat : Int) = _
  rw [BitVec.toNat_and, h2, IntKind.wrap_i64]
  omega

set_option maxHeartbeats 4000000 in
theorem lawMany_any (n : Int) (w : World) :
    Calls Try.prog 5 #[.int .i64 n] w fun e w' => e = .returned (.bool true) ∧ Below w.heap.size w w' := by
  have AW : Hid (∀ W, Calls Try.prog 6 #[] W fun e w' => e = .returned (.bool true) ∧ Below W.heap.size W w') := awake6_any
  obtain ⟨m, hm, hbits⟩ := and127 n
  have C1 : Hid (∀ W, Calls Try.prog 7 #[.string ⟨(printT (List.replicate m row1)).toArray⟩] W fun e w' => ∃ v, e = .returned (.tuple #[v, .int .i64 ((parseP (printT (List.replicate m row1))).2.1 : Nat), .int .i64 ((parseP (printT (List.replicate m row1))).2.2 : Nat)]) ∧ RawsOwn W.heap.size w' (parseP (printT (List.replicate m row1))).1 v ∧ Below W.heap.size W w') := fun W => by
    have := parse_any ⟨(printT (List.replicate m row1)).toArray⟩ (by rw [Lib.size_eq]; show (printT _).length ≤ maxLen; rw [print_rep]; unfold maxLen; omega) W
    exact this
  obtain ⟨q1, q2⟩ := many_res m hm
  go_enter Try.func5, Try.ntmps5
  go_wp2_with fail
  refine (AW.out _).mono ?_
  rintro e w1 ⟨rfl, hb1⟩
  have hrm : Hid (∀ i, (⟨(printT (List.replicate i row1)).toArray⟩ : ByteArray) ++ (⟨#[49, 32, 45, 62, 32, 100, 114, 111, 112, 10]⟩ : ByteArray) = ⟨(printT (List.replicate (i + 1) row1)).toArray⟩) := rep_more
  have Q1 : Hid (m ≤ 64 → ∃ l, parseP (printT (List.replicate m row1)) = (l, 0, 0) ∧ l.length = m) := q1
  have Q2 : Hid (64 < m → parseP (printT (List.replicate m row1)) = ([], 4, 640)) := q2
  clear q1 q2
  go_wp2_with fail
  go_loop [3, 4] (fun s i => ∃ j : Nat, j ≤ m ∧ i = .int .i64 (j : Int) ∧ s = .string ⟨(printT (List.replicate j row1)).toArray⟩) (fun _ i => m - (intOf i).toNat)
  case atStart => exact ⟨0, Nat.zero_le _, rfl, rfl⟩
  case round =>
    obtain ⟨j, hj, rfl, rfl⟩ := hrel
    by_cases hlt : j < m
    · have hlt' : (j : Int) < (m : Int) := by omega
      clear hlt
      have hlen : ¬ 9223372036854775807 < (printT (List.replicate j row1)).length + 10 := by rw [print_rep]; omega
      go_wp2_with fail
      refine ⟨⟨j + 1, by omega, by go_num, ?_⟩, by simp [intOf]; omega⟩
      rw [← hrm.out j]
    · obtain rfl : j = m := by omega
      have hlt' : ¬ (j : Int) < (j : Int) := by omega
      clear hlt
      go_wp2_with fail
      refine (C1.out _).mono ?_
      by_cases h64 : j ≤ 64
      · obtain ⟨l, e1, hl⟩ := Q1.out h64
        rw [e1]
        rintro e w2 ⟨v, rfl, hraw, hb2⟩
        obtain ⟨o, cap, rfl⟩ := raws_len hraw
        have hle : ¬ (j : Int) > 64 := by omega
        have hll : (l.length : Int) = (j : Int) := by omega
        have heq : ((l.length : Int) == (j : Int)) = true := by simp; omega
        clear hl hll hraw h64 e1
        go_wp2_with fail
        go_ret
        exact ⟨rfl, hb1.trans (hb2.mono hb1.size)⟩
      · have e1 := Q2.out (by omega)
        rw [e1]
        rintro e w2 ⟨v, rfl, hraw, hb2⟩
        obtain ⟨o, cap, rfl⟩ := raws_len hraw
        have hle : (j : Int) > 64 := by omega
        clear hraw h64 e1
        go_wp2_with fail
        go_ret
        exact ⟨rfl, hb1.trans (hb2.mono hb1.size)⟩
end Go.Proofs.Ytanmbaleadcfgaa
