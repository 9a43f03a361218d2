import Derived.Test.YtgbmfifalfedbaaLexAwake
import Derived.Laws.BytesString
import Derived.Laws.MakeOwn
namespace Go.Proofs.Ytgbmfifalfedbaa
open Go Go.RowKit

theorem lexT_long (S : List UInt8) (h : 4096 < S.length) : lexT S = ([], 5, 4096) := by unfold lexT; rw [if_pos h]
theorem lexT_not5 (S : List UInt8) (h : S.length ≤ 4096) : (lexT S).2.1 ≠ 5 := by
  unfold lexT
  rw [if_neg (by omega)]
  cases hx : lexW 0 S with
  | ok l => exact (by decide : (0 : Nat) ≠ 5)
  | error x =>
    obtain ⟨e, p⟩ := x
    have := lexW_error S 0 e p hx
    show e ≠ 5
    omega

set_option maxRecDepth 100000 in
set_option maxHeartbeats 4000000 in
theorem lawLong_any (c : Nat) (hc : c < 256) (w : World) :
    Calls Try.prog 6 #[.int .u8 (c : Int)] w fun e w' => e = .returned (.bool true) ∧ Below w.heap.size w w' := by
  have AW : Hid (∀ W, Calls Try.prog 7 #[] W fun e w' => e = .returned (.bool true) ∧ Below W.heap.size W w') := awake_any
  obtain ⟨cb, hcb⟩ : ∃ cb : UInt8, cb.toNat = c := ⟨UInt8.ofNat c, by rw [UInt8.toNat_ofNat']; omega⟩
  obtain ⟨i0, hi, hz0, hz1, hz2⟩ : ∃ i0, Try.prog.info? 5 = some i0 ∧ i0.zero = some (.int .u8 0) ∧ i0.size = 1 ∧ i0.bytes = 1 := ⟨_, rfl, rfl, rfl, rfl⟩
  obtain ⟨M, hM⟩ : ∃ M, M = madeCells (Value.int .u8 0).cells ((4096 : Int).toNat * i0.size) := ⟨_, rfl⟩
  have hMs : M.size = 4096 := by rw [hM, size_madeCells, hz1]; rfl
  have hmk : ∀ W : World, (Instr.makeSlice 31 (.int .i64 4096) (.int .i64 4096)).run Try.prog W = .ok (.slice (some ⟨W.heap.size, 0, none⟩) 4096 4096) (W.alloc (.cells M 5)) := fun W => by
    have h := run_make (P := Try.prog) W 31 5 i0 (.int .u8 0) Try.underlying31 hi hz0 .i64 .i64 4096 4096 (by omega) (by omega) (by rw [hz2]; decide) (by decide)
    rw [← hM] at h
    simpa using h
  obtain ⟨B, hB⟩ : ∃ B : List UInt8, B = List.replicate 4096 cb := ⟨_, rfl⟩
  obtain ⟨sb, hsb⟩ : ∃ sb : ByteArray, sb = ⟨B.toArray⟩ := ⟨_, rfl⟩
  have hsd : sb.data.toList = B := by rw [hsb]
  have hBl : B.length = 4096 := by rw [hB]; exact List.length_replicate
  have hss : sb.size = 4096 := by rw [Lib.size_eq, hsd]; exact hBl
  have HCV : Hid (∀ (W : World) (g : Nat) (X : Array Value), W.heap[g]? = some (.cells X 5 (0, 0)) → (∀ j, j < 4096 → X[j]? = some (.int .u8 (c : Int))) → (convert 31 9 (.slice (some ⟨g, 0, none⟩) 4096 4096)).run Try.prog W = .ok (.string sb) W) := fun W g X hg hX => by
    have := run_convert_bytes_back (P := Try.prog) W 31 9 5 ⟨g, 0, none⟩ 4096 B Try.underlying31 Try.underlying5 Try.underlying9 (fun j hj => by
      have hadd : (⟨g, 0, none⟩ : Addr).add j = ⟨g, j, none⟩ := by unfold Addr.add; split <;> simp_all
      rw [hadd, cell_of_row _ _ _ _ _ _ hg, hX j (by omega)]
      have e : B[j] = cb := by subst hB; exact List.getElem_replicate _
      rw [e, hcb])
    rw [hBl, ← hsb] at this
    exact this
  have C1 : Hid (∀ W, Calls Try.prog 8 #[.string (sb ++ ⟨#[97]⟩)] W fun e w' => ∃ u, e = .returned (.tuple #[u, .int .i64 5, .int .i64 4096]) ∧ Below W.heap.size W w') := fun W => by
    have hz : (sb ++ ⟨#[97]⟩ : ByteArray).size = 4097 := by rw [ByteArray.size_append, hss]; rfl
    have := tokens_any (sb ++ ⟨#[97]⟩) (by rw [hz]; decide) W
    rw [lexT_long _ (by rw [← Lib.size_eq, hz]; decide)] at this
    exact this.mono fun e w' ⟨u, h1, _, h2⟩ => ⟨u, h1, h2⟩
  have C2 : Hid (∀ W, Calls Try.prog 8 #[.string sb] W fun e w' => ∃ u n a, n ≠ 5 ∧ e = .returned (.tuple #[u, .int .i64 ((n : Nat) : Int), .int .i64 ((a : Nat) : Int)]) ∧ Below W.heap.size W w') := fun W => by
    have := tokens_any sb (by rw [hss]; decide) W
    exact this.mono fun e w' ⟨u, h1, _, h2⟩ => ⟨u, _, _, lexT_not5 _ (by rw [← Lib.size_eq, hss]; decide), h1, h2⟩
  clear hM hz0 hz1 hz2 hi hB hsb hsd hBl hcb
  go_enter Try.func6, Try.ntmps6
  go_wp2_with fail
  refine (AW.out _).mono ?_
  rintro e w1 ⟨rfl, hb1⟩
  go_wp2_with fail
  have n1 := heap_new w1 (.cells M 5) _ rfl
  have B1 := hb1.alloc hb1.size (.cells M 5)
  go_loopw [4] (fun i wr => ∃ k : Nat, k ≤ 4096 ∧ i = .int .i64 (k : Int) ∧ ∃ X : Array Value, X.size = 4096 ∧ wr.heap[w1.heap.size]? = some (.cells X 5 (0, 0)) ∧ Hid (∀ j, j < k → X[j]? = some (.int .u8 (c : Int))) ∧ Below w.heap.size w wr) (fun i _ => 4096 - (intOf i).toNat)
  case atStart => exact ⟨0, Nat.zero_le _, rfl, M, hMs, n1, fun j hj => absurd hj (Nat.not_lt_zero _), B1⟩
  case round =>
    clear n1 B1
    obtain ⟨k, hk, rfl, X, hXs, hg, HX, hb⟩ := hrel
    have hz1 := hb1.size
    by_cases hlt : k < 4096
    · obtain ⟨v, hv⟩ : ∃ v, X[k]? = some v := ⟨_, Array.getElem?_eq_getElem (by omega)⟩
      have c1 : wr.cell? ⟨w1.heap.size, k, none⟩ = some v := by rw [cell_of_row _ _ _ _ _ _ hg]; exact hv
      have f1 := tc_frozen (k := k) hg rfl
      clear hv
      go_wp2_with fail
      go_roundw
      case rel =>
        refine ⟨k + 1, by omega, by go_num, X.setIfInBounds k (.int .u8 (c : Int)), by simpa using hXs, tc_row hg _, ?_, tc_below hb hz1 _ _⟩
        intro j hj
        by_cases hjk : j = k
        · subst hjk
          exact Array.getElem?_setIfInBounds_self_of_lt (by omega)
        · rw [Array.getElem?_setIfInBounds_ne (by omega)]
          exact HX.out j (by omega)
      case measure => simp [intOf]; omega
    · obtain rfl : k = 4096 := by omega
      have cv1 := HCV.out wr w1.heap.size X hg HX.out
      have hk2 : ¬ ((4096 : Nat) : Int) < 4096 := by decide
      clear hlt hk
      go_wp2_with fail
      refine (C1.out _).mono ?_
      rintro e w2 ⟨u, rfl, hb2⟩
      have hg2 : w2.heap[w1.heap.size]? = some (.cells X 5 (0, 0)) := (hb2.block _ (Array.getElem?_eq_some_iff.1 hg).1).trans hg
      have cv2 := HCV.out w2 w1.heap.size X hg2 HX.out
      have B2 := hb.trans (hb2.mono hb.size)
      clear cv1 hb hb2
      go_wp2_with fail
      refine (C2.out _).mono ?_
      rintro e w3 ⟨u', n, a, hn, rfl, hb3⟩
      have B3 := B2.trans (hb3.mono B2.size)
      have hne : ((n : Int) != 5) = true := by simp; omega
      go_wp2_with fail
      go_ret
      exact ⟨rfl, B3⟩
end Go.Proofs.Ytgbmfifalfedbaa
