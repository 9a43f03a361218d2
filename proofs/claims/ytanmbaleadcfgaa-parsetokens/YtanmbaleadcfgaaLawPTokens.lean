import Derived.Test.YtanmbaleadcfgaaParAwake
import Derived.Test.YtanmbaleadcfgaaParseWalk
namespace Go.Proofs.Ytanmbaleadcfgaa
open Go Go.RowKit

theorem parseP_zero {S : List UInt8} (h : (parseP S).2.1 = 0) : parseT S = .ok (parseP S).1 := by
  unfold parseP at h ⊢
  cases hx : parseT S with
  | ok l => rfl
  | error x =>
    rw [hx] at h
    exfalso
    have h' : x.1 = 0 := h
    unfold parseT at hx
    by_cases h4 : 4096 < S.length
    · rw [if_pos h4] at hx; cases hx; exact absurd h' (by decide)
    · rw [if_neg h4] at hx
      cases hl : lexW 0 S with
      | error y =>
        rw [hl] at hx
        cases hx
        obtain ⟨e, p⟩ := x
        have := lexW_error S 0 e p hl
        have h2 : e = 0 := h'
        omega
      | ok T =>
        rw [hl] at hx
        have hx' : takeL S.length (T.length + 1) [] T = .error x := hx
        have := does_rows S.length T (T.length + 1) [] ⟨0, 0, 0⟩ rfl
        rw [show T.drop (Ws.mk 0 0 0).i = T from rfl, hx'] at this
        exact this.2.2 h'
/-- What is left of the count. -/
theorem arr_step (n row : Nat) (t : Tok) (T : List Tok) (x : Nat) (h : arrGo n row (t :: T) = some x) :
    ¬ 1 < (if t.kind = 7 then 0 else if t.kind = 6 then row + 1 else row) ∧ arrGo (if t.kind = 6 then n + 1 else n) (if t.kind = 7 then 0 else if t.kind = 6 then row + 1 else row) T = some x := by
  rw [arrGo] at h
  by_cases hc : 1 < (if t.kind = 7 then 0 else if t.kind = 6 then row + 1 else row)
  · rw [if_pos hc] at h; cases h
  · rw [if_neg hc] at h; exact ⟨hc, h⟩

set_option maxHeartbeats 4000000 in
theorem lawTokens_any (s : ByteArray) (hs : s.size ≤ maxLen) (w : World) :
    Calls Try.prog 4 #[.string s] w fun e w' => e = .returned (.bool true) ∧ Below w.heap.size w w' := by
  have AW : Hid (∀ W, Calls Try.prog 6 #[] W fun e w' => e = .returned (.bool true) ∧ Below W.heap.size W w') := awake6_any
  have C1 : Hid (∀ W, Calls Try.prog 7 #[.string s] W fun e w' => ∃ v, e = .returned (.tuple #[v, .int .i64 ((parseP s.data.toList).2.1 : Nat), .int .i64 ((parseP s.data.toList).2.2 : Nat)]) ∧ RawsOwn W.heap.size w' (parseP s.data.toList).1 v ∧ Below W.heap.size W w') := parse_any s hs
  have C2 : Hid (∀ W, Calls Try.prog 10 #[.string s] W fun e w' => ∃ u, e = .returned (.tuple #[u, .int .i64 ((lexT s.data.toList).2.1 : Nat), .int .i64 ((lexT s.data.toList).2.2 : Nat)]) ∧ w'.ownsRow W.heap.size 33 4 u (lexT s.data.toList).1.length (gcells encT (lexT s.data.toList).1) ∧ Below W.heap.size W w') := tokens_any s hs
  obtain ⟨S, hS⟩ : ∃ S, S = s.data.toList := ⟨_, rfl⟩
  rw [← hS] at C1 C2
  clear hS hs
  by_cases hE : (parseP S).2.1 = 0
  · have hP := parseP_zero hE
    obtain ⟨T, hT, harr, h64⟩ := parse_arrows hP
    have hlx : lexT S = (T, 0, 0) := by
      unfold lexT
      rw [hT]
      by_cases h4 : 4096 < S.length
      · exfalso
        unfold parseT at hP
        rw [if_pos h4] at hP
        cases hP
      · rw [if_neg h4]
    have hTl : T.length ≤ 4096 := by
      have h4 : ¬ 4096 < S.length := fun h4 => by unfold parseT at hP; rw [if_pos h4] at hP; cases hP
      have := lexW_len hT
      omega
    rw [hlx] at C2
    have C3 : Hid (∀ W, Calls Try.prog 10 #[.string s] W fun e w' => ∃ u, e = .returned (.tuple #[u, .int .i64 0, .int .i64 0]) ∧ w'.ownsRow W.heap.size 33 4 u T.length (gcells encT T) ∧ Below W.heap.size W w') := C2.out
    obtain ⟨⟨L, Ee, Ea⟩, hL⟩ : ∃ x, x = parseP S := ⟨_, rfl⟩
    rw [← hL] at C1 hE harr h64
    simp only at C1 hE harr h64
    subst hE
    have HARR : Hid (arrGo 0 0 T = some L.length) := harr
    obtain ⟨ll, hll⟩ : ∃ ll, ll = L.length := ⟨_, rfl⟩
    have HLL : Hid (ll = L.length) := hll
    rw [← hll] at h64 HARR
    clear hP hT hlx hL C2 harr hll
    go_enter Try.func4, Try.ntmps4
    go_wp2_with fail
    refine (AW.out _).mono ?_
    rintro e w1 ⟨rfl, hb1⟩
    go_wp2_with fail
    refine (C1.out _).mono ?_
    rintro e w2 ⟨v, rfl, hraw, hb2⟩
    obtain ⟨o, cap, rfl⟩ := (by
      obtain ⟨P, hP, hP2, _⟩ := hraw
      obtain ⟨o, cap, e⟩ := gown_slice hP2
      exact ⟨o, cap, by rw [e, ← hP, List.length_map]⟩ : ∃ o cap, v = .slice o L.length cap)
    rw [← HLL.out]
    have B2 := hb1.trans (hb2.mono hb1.size)
    clear hraw hb1 hb2
    go_wp2_with fail
    refine (C3.out _).mono ?_
    rintro e w3 ⟨u, rfl, hown, hb3⟩
    have G3 : GSl TokE encT w3 u T := gsl_of (E := TokE) hown fun c _ => rfl
    obtain ⟨ot, capt, rfl, hct, hcm⟩ := G3.slice
    obtain ⟨n, hn⟩ : ∃ n, n = T.length := ⟨_, rfl⟩
    have HN : Hid (n = T.length) := hn
    rw [← hn] at G3 hct hTl ⊢
    have HG : Hid (GSl TokE encT w3 (.slice ot n capt) T) := G3
    have B3 := B2.trans (hb3.mono B2.size)
    unfold maxLen at hcm
    clear G3 hown hb3 B2 hn AW C1 C3
    go_wp2_with fail
    go_loopw [9, 10, 11] (fun cn rw i wr => ∃ (a r k : Nat), k ≤ n ∧ a ≤ k ∧ r ≤ 1 ∧ cn = .int .i64 (a : Int) ∧ rw = .int .i64 (r : Int) ∧ i = .int .i64 (k : Int) ∧ Hid (arrGo a r (T.drop k) = some ll) ∧ wr = w3) (fun _ _ i _ => n - (intOf i).toNat)
    case atStart => exact ⟨0, 0, 0, Nat.zero_le _, Nat.le_refl _, by omega, rfl, rfl, rfl, HARR, rfl⟩
    case round =>
      obtain ⟨a, r, k, hk, hak, hr, rfl, rfl, rfl, HA, rfl⟩ := hrel
      clear HARR
      by_cases hlt : k < n
      · obtain ⟨g, off, cur, ty, fr, c, rfl, hg, hc, hTk⟩ := HG.out.at k hlt
        have c0 : wr.cell? ⟨g, off + k * 4, none⟩ = some (.int .i64 (c.kind : Int)) := by rw [cell_of_row _ _ _ _ _ _ hg]; exact hc 0 (by decide)
        have hdr : T.drop k = c :: T.drop (k + 1) := by
          obtain ⟨hk2, rfl⟩ := List.getElem?_eq_some_iff.1 hTk
          exact List.drop_eq_getElem_cons hk2
        have hs := arr_step a r c (T.drop (k + 1)) ll (by rw [← hdr]; exact HA.out)
        have hlt' : (k : Int) < (n : Int) := by omega
        clear hg hc hTk hdr HA
        by_cases k6 : c.kind = 6
        · have e6 : ((c.kind : Int) == 6) = true := by simp; omega
          have e7 : ((c.kind : Int) == 7) = false := by simp; omega
          have k7 : ¬ c.kind = 7 := by omega
          rw [if_neg k7, if_pos k6, if_pos k6] at hs
          have hr1 : ¬ (r : Int) + 1 > 1 := by have := hs.1; omega
          have HS : Hid (arrGo (a + 1) (r + 1) (T.drop (k + 1)) = some ll) := hs.2
          have hr2 : r + 1 ≤ 1 := by have := hs.1; omega
          clear hs k6 k7
          go_wp2_with fail
          go_roundw
          case rel => exact ⟨a + 1, r + 1, k + 1, by omega, by omega, hr2, by go_num, by go_num, by go_num, HS, trivial⟩
          case measure => simp [intOf]; omega
        · have e6 : ((c.kind : Int) == 6) = false := by simp; omega
          by_cases k7 : c.kind = 7
          · have e7 : ((c.kind : Int) == 7) = true := by simp; omega
            rw [if_pos k7, if_neg k6] at hs
            have HS : Hid (arrGo a 0 (T.drop (k + 1)) = some ll) := hs.2
            clear hs k6 k7
            go_wp2_with fail
            go_roundw
            case rel => exact ⟨a, 0, k + 1, by omega, by omega, by omega, by go_num, by go_num, by go_num, HS, trivial⟩
            case measure => simp [intOf]; omega
          · have e7 : ((c.kind : Int) == 7) = false := by simp; omega
            rw [if_neg k7, if_neg k6, if_neg k6] at hs
            have HS : Hid (arrGo a r (T.drop (k + 1)) = some ll) := hs.2
            have hr1 : ¬ (r : Int) > 1 := by omega
            clear hs k6 k7
            go_wp2_with fail
            go_roundw
            case rel => exact ⟨a, r, k + 1, by omega, by omega, hr, by go_num, by go_num, by go_num, HS, trivial⟩
            case measure => simp [intOf]; omega
      · have hlt' : (n : Int) ≤ (k : Int) := by omega
        have haa : a = ll := by
          have := HA.out
          rw [List.drop_of_length_le (by have := HN.out; omega)] at this
          exact Option.some.inj this
        subst haa
        have he : ((a : Int) == (a : Int)) = true := by simp
        have h64' : (a : Int) ≤ 64 := by omega
        clear hlt HA
        go_wp2_with fail
        go_ret
        exact ⟨rfl, B3⟩
  · obtain ⟨⟨L, Ee, Ea⟩, hL⟩ : ∃ x, x = parseP S := ⟨_, rfl⟩
    rw [← hL] at C1 hE
    simp only at C1 hE
    have hne : ((Ee : Int) != 0) = true := by simp; omega
    clear hE hL C2
    go_enter Try.func4, Try.ntmps4
    go_wp2_with fail
    refine (AW.out _).mono ?_
    rintro e w1 ⟨rfl, hb1⟩
    go_wp2_with fail
    refine (C1.out _).mono ?_
    rintro e w2 ⟨v, rfl, hraw, hb2⟩
    clear hraw
    go_wp2_with fail
    go_ret
    exact ⟨rfl, hb1.trans (hb2.mono hb1.size)⟩
end Go.Proofs.Ytanmbaleadcfgaa
