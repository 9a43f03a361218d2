import Derived.Test.YtgbmfifalfedbaaLexAwake
import Derived.Test.YtgbmfifalfedbaaRefTok
namespace Go.Proofs.Ytgbmfifalfedbaa
open Go Go.RowKit

theorem lexT_end (S : List UInt8) : (lexT S).2.1 = 0 ∨ ((lexT S).1 = [] ∧ (lexT S).2.2 ≤ S.length ∧ (lexT S).2.1 ≠ 0) := by
  unfold lexT
  by_cases h : 4096 < S.length
  · rw [if_pos h]; exact .inr ⟨rfl, by show 4096 ≤ _; omega, by decide⟩
  · rw [if_neg h]
    cases hx : lexW 0 S with
    | ok l => exact .inl rfl
    | error x =>
      obtain ⟨e, p⟩ := x
      have := lexW_error S 0 e p hx
      exact .inr ⟨rfl, by show p ≤ _; omega, by show e ≠ 0; omega⟩
theorem lexT_nums (S : List UInt8) : (lexT S).2.1 ≤ 7 ∧ (lexT S).2.2 ≤ 4096 ∧ (lexT S).1.length ≤ 4096 := by
  unfold lexT
  by_cases h : 4096 < S.length
  · rw [if_pos h]; exact ⟨by decide, by decide, by decide⟩
  · rw [if_neg h]
    cases hx : lexW 0 S with
    | ok l => exact ⟨Nat.zero_le _, Nat.zero_le _, Nat.le_trans (lexW_len hx) (by omega)⟩
    | error x =>
      obtain ⟨e, p⟩ := x
      have := lexW_error S 0 e p hx
      exact ⟨by show e ≤ 7; omega, by show p ≤ 4096; omega, Nat.zero_le _⟩

set_option maxRecDepth 100000 in
set_option maxHeartbeats 4000000 in
theorem lawReads_any (s : ByteArray) (hs : s.size ≤ maxLen) (w : World) :
    Calls Try.prog 3 #[.string s] w fun e w' => e = .returned (.bool true) ∧ Below w.heap.size w w' := by
  have AW : Hid (∀ W, Calls Try.prog 7 #[] W fun e w' => e = .returned (.bool true) ∧ Below W.heap.size W w') := awake_any
  have C1 : Hid (∀ W, Calls Try.prog 8 #[.string s] W fun e w' => ∃ u, e = .returned (.tuple #[u, .int .i64 ((lexT s.data.toList).2.1 : Nat), .int .i64 ((lexT s.data.toList).2.2 : Nat)]) ∧ w'.ownsRow W.heap.size 28 4 u (lexT s.data.toList).1.length (gcells encT (lexT s.data.toList).1) ∧ Below W.heap.size W w') := tokens_any s hs
  have C2 : Hid (∀ W, Calls Try.prog 9 #[.string s] W fun e w' => ∃ u, e = .returned (.tuple #[u, .int .i64 ((lexT s.data.toList).2.1 : Nat), .int .i64 ((lexT s.data.toList).2.2 : Nat)]) ∧ w'.ownsRow W.heap.size 28 4 u (lexT s.data.toList).1.length (gcells encT (lexT s.data.toList).1) ∧ Below W.heap.size W w') := rtokens_any s hs
  have hend := lexT_end s.data.toList
  have hnum := lexT_nums s.data.toList
  rw [← Lib.size_eq] at hend
  obtain ⟨⟨L, E, A⟩, hT⟩ : ∃ T, T = lexT s.data.toList := ⟨_, rfl⟩
  rw [← hT] at C1 C2 hend hnum
  simp only at C1 C2 hend hnum
  obtain ⟨n, hn⟩ : ∃ n, n = L.length := ⟨_, rfl⟩
  have HEND : Hid (E = 0 ∨ (L = [] ∧ A ≤ s.size ∧ E ≠ 0)) := hend
  have hn2 : n ≤ 4096 := by omega
  have HN : Hid (n = L.length) := hn
  have eE : ((E : Int) != (E : Int)) = false := by simp
  have eA : ((A : Int) != (A : Int)) = false := by simp
  have eN : ((n : Int) != (n : Int)) = false := by simp
  unfold maxLen at hs
  clear hT hend hnum
  go_enter Try.func3, Try.ntmps3
  go_wp2_with fail
  refine (AW.out _).mono ?_
  rintro e w1 ⟨rfl, hb1⟩
  go_wp2_with fail
  refine (C1.out _).mono ?_
  rintro e w2 ⟨u, rfl, ho2, hb2⟩
  go_wp2_with fail
  refine (C2.out _).mono ?_
  rintro e w3 ⟨u', rfl, ho3, hb3⟩
  have G2 : GSl TokE encT w3 u L := (gsl_of (E := TokE) ho2 fun c _ => rfl).below hb3
  have G3 : GSl TokE encT w3 u' L := gsl_of (E := TokE) ho3 fun c _ => rfl
  obtain ⟨o, cap, rfl, _, hcap⟩ := G2.slice
  obtain ⟨o', cap', rfl, _, hcap'⟩ := G3.slice
  have B3 : Below w.heap.size w w3 := (hb1.trans (hb2.mono hb1.size)).trans (hb3.mono (Nat.le_trans hb1.size hb2.size))
  rw [← hn] at G2 G3 ⊢
  have HG2 : Hid (GSl TokE encT w3 (.slice o n cap) L) := G2
  have HG3 : Hid (GSl TokE encT w3 (.slice o' n cap') L) := G3
  clear G2 G3 ho2 ho3 hb1 hb2 hb3 hn AW C1 C2
  go_wp2_with fail
  go_loopw [9] (fun i wr => ∃ k : Nat, k ≤ n ∧ i = .int .i64 (k : Int) ∧ Below w3.heap.size w3 wr) (fun i _ => n - (intOf i).toNat)
  case atStart => exact ⟨0, Nat.zero_le _, rfl, Below.refl _ _⟩
  case round =>
    obtain ⟨k, hk, rfl, hb⟩ := hrel
    by_cases hlt : k < n
    · obtain ⟨g, off, cur, t, fr, c, rfl, hg, hc, hLk⟩ := HG2.out.at k hlt
      obtain ⟨g', off', cur', t', fr', c', rfl, hg', hc', hLk'⟩ := HG3.out.at k hlt
      rw [hLk] at hLk'
      obtain rfl := Option.some.inj hLk'
      have k1 : wr.heap[g]? = some (.cells cur t fr) := (hb.block g (Array.getElem?_eq_some_iff.1 hg).1).trans hg
      have k2 : wr.heap[g']? = some (.cells cur' t' fr') := (hb.block g' (Array.getElem?_eq_some_iff.1 hg').1).trans hg'
      have H1 : Hid (∀ j, j < 4 → cur[off + k * 4 + j]? = (encT c)[j]?) := hc
      have H2 : Hid (∀ j, j < 4 → cur'[off' + k * 4 + j]? = (encT c)[j]?) := hc'
      have e1 : ∀ w, (Op.equalIn 10000 28 (.agg (encT c)) (.agg (encT c))).run Try.prog w = .ok true w := eqT_same c
      have eg : ∀ op x y (xs ys : Array Value) w, (eqGuard op 28 x y (.agg xs) (.agg ys)).run Try.prog w = .ok () w := egT
      clear hg hg' hc hc' hLk hLk'
      go_wp2_with fail
      have ne1 := Later.ne wr
      refine wp_region_later (by kernel_rfl) (by kernel_rfl) ?_
      go_big_quiet_step (fail)
      go_big_quiet_step (fail)
      go_big_quiet_step (fail)
      refine qlE (E := TokE) TokOk rfl _ rfl g (off + k * 4) rfl cur t fr (encT c) rfl (later_block k1) H1.out ?_
      simp only [Act.put, List.setIfInBounds_toArray, List.set_cons_succ, List.set_cons_zero]
      go_big_quiet_step (fail)
      go_big_quiet_step (fail)
      go_big_quiet_step (fail)
      refine qlE (E := TokE) TokOk rfl _ rfl g' (off' + k * 4) rfl cur' t' fr' (encT c) rfl (later_block k2) H2.out ?_
      simp only [Act.put, List.setIfInBounds_toArray, List.set_cons_succ, List.set_cons_zero]
      go_big_quiet_step (fail)
      refine wpQuiet_nil ?_
      rintro w' ⟨u, rfl⟩
      have hb5 := hb.trans (u.below.mono hb.size)
      go_wp2_with fail
      go_roundw
      case rel => exact ⟨k + 1, by omega, by go_num, hb5⟩
      case measure => simp [intOf]; omega
    · have B4 := B3.trans (hb.mono B3.size)
      have hlt' : (n : Int) ≤ (k : Int) := by omega
      clear hlt B3
      rcases HEND.out with hE | ⟨hL, hA, hE⟩
      · have hE0 : ((E : Int) == 0) = true := by simp; omega
        clear hE
        go_wp2_with fail
        go_ret
        exact ⟨rfl, B4⟩
      · have hE0 : ((E : Int) == 0) = false := by simp; omega
        have hn0 : ((n : Int) == 0) = true := by have := HN.out; rw [hL] at this; simp at this; simp; omega
        have hA' : (A : Int) ≤ (s.size : Int) := by omega
        clear hE hL hA
        go_wp2_with fail
        go_ret
        exact ⟨rfl, B4⟩
end Go.Proofs.Ytgbmfifalfedbaa
