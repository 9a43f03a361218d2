import Derived.Test.YtplnlmkmaapbaaaDoorSpRan
namespace Go.Proofs.YtplnlmkmaapbaaaDoor
open Go Go.RowKit

set_option maxHeartbeats 400000 in
theorem many_any (b : Nat) (hb : b ≤ 16) (w : World) :
    Calls Tryd.prog 36 #[.int .i64 (b : Int)] w fun e w' => e = .returned (.int .i64 ((sz b : Nat) : Int)) ∧ w' = w := by
  have H0 : Hid (∀ k, k ≤ 16 → b ≤ k → 2 ^ (k - b) ≤ 65536) := fun k h1 h2 => Nat.le_trans (Nat.pow_le_pow_right (by decide) (show k - b ≤ 16 by omega)) (by decide)
  go_enter Tryd.func36, Tryd.ntmps36
  go_wp2_with fail
  go_loop [3, 4] (fun n k => ∃ i : Nat, b ≤ i ∧ i ≤ 16 ∧ k = .int .i64 (i : Int) ∧ n = .int .i64 ((2 ^ (i - b) : Nat) : Int)) (fun _ k => 16 - (intOf k).toNat)
  case atStart => exact ⟨b, Nat.le_refl _, hb, rfl, by rw [Nat.sub_self]; rfl⟩
  case round =>
    obtain ⟨i, h1, h2, rfl, rfl⟩ := hrel
    have hp := H0.out i h2 h1
    have HS : Hid (2 ^ (i + 1 - b) = 2 ^ (i - b) * 2) := by
      show 2 ^ (i + 1 - b) = 2 ^ (i - b) * 2
      rw [show i + 1 - b = (i - b) + 1 by omega, Nat.pow_succ]
    have HE : Hid (i = 16 → 2 ^ (i - b) = sz b) := fun e => by subst e; rfl
    obtain ⟨x, hx⟩ : ∃ x, x = 2 ^ (i - b) := ⟨_, rfl⟩
    rw [← hx] at hp HS HE ⊢
    clear hx
    by_cases hlt : i < 16
    · go_wp2_with fail
      go_round
      case rel => exact ⟨i + 1, by omega, by omega, by go_num, by rw [HS.out]; go_num⟩
      case measure => simp [intOf]; omega
    · go_wp2_with fail
      go_ret
      exact ⟨ret_int (by rw [HE.out (by omega)]), rfl⟩

set_option maxHeartbeats 1000000 in
theorem rrange_ok (l h : Nat) (hl : l ≤ h) (hh : h ≤ 65535) (w : World) :
    Calls Tryd.prog 21 #[.int .i64 (l : Int), .int .i64 (h : Int)] w fun e w' => ∃ u, e = .returned (.tuple #[u, .int .i64 0]) ∧ w'.ownsRow w.heap.size 50 2 u (rng h l).length (pcells (rng h l)) ∧ Below w.heap.size w w' := by
  have MY : Hid (∀ b : Nat, b ≤ 16 → ∀ W, Calls Tryd.prog 36 #[.int .i64 (b : Int)] W fun e w' => e = .returned (.int .i64 ((sz b : Nat) : Int)) ∧ w' = W) := fun b hb W => many_any b hb W
  have HL : Hid ((rng h l).length ≤ 65536) := Nat.le_trans (rng_le h l) (by omega)
  have q0 : ¬ h < l := by omega
  have q1 : ¬ (65535 : Int) < (h : Int) := by omega
  have q2 : ¬ (l : Int) < 0 := by omega
  have n0 := heap_new w (.cells #[] 50) _ rfl
  go_enter Tryd.func21, Tryd.ntmps21
  go_wp2_with fail
  clear q0 q1 q2
  go_loopw [6, 7] (fun out i wr => ∃ n : Nat, n ≤ h + 1 ∧ i = .int .i64 (n : Int) ∧ ∃ P : List (Nat × Nat), P ++ rng h n = rng h l ∧ wr.ownsRow w.heap.size 50 2 out P.length (pcells P) ∧ Below w.heap.size w wr) (fun _ i _ => h + 1 - (intOf i).toNat)
  case atStart => exact ⟨l, by omega, rfl, [], rfl, ⟨rfl, Or.inr ⟨w.heap.size, 0, #[], rfl, Nat.le_refl _, n0, Nat.le_refl _, by decide, rfl, rfl⟩⟩, (Below.refl _ _).alloc (Nat.le_refl _) _⟩
  case round =>
    obtain ⟨n, hn, rfl, P, hP, hown, hb⟩ := hrel
    have HP : Hid (P ++ rng h n = rng h l) := hP
    have hPl : P.length ≤ 65536 := by
      have := HL.out
      rw [← hP, List.length_append] at this
      omega
    have OWN : Hid (wr.ownsRow w.heap.size 50 2 u6 P.length (pcells P)) := hown
    clear hP hown n0
    obtain ⟨wo, hwo⟩ : ∃ wo : World, wo = wr := ⟨_, rfl⟩
    rw [← hwo] at hb OWN ⊢
    clear hwo
    by_cases hlt : n ≤ h
    · go_wp2_with fail
      go_loop [8] (fun x => ∃ b : Nat, b ≤ 16 ∧ x = .int .i64 (b : Int) ∧ ∀ c, c < b → okP n h c = false) (fun x => 16 - (intOf x).toNat)
      case atStart => exact ⟨0, Nat.zero_le _, rfl, fun c hc => by omega⟩
      case round =>
        obtain ⟨b, hb16, rfl, hno⟩ := hrel
        have D : Hid (∀ W, Calls Tryd.prog 36 #[.int .i64 (b : Int)] W fun e w' => e = .returned (.int .i64 ((sz b : Nat) : Int)) ∧ w' = W) := MY.out b hb16
        have HNO : Hid (∀ c, c < b → okP n h c = false) := hno
        have hs0 := sz_pos b
        have hs1 := sz_le b
        obtain ⟨s, hs⟩ : ∃ s, s = sz b := ⟨_, rfl⟩
        rw [← hs] at D hs0 hs1
        have HS : Hid (s = sz b) := hs
        have HB : Hid (b = 16 → s = 1) := fun e => by subst e; rw [HS.out, sz_16]
        clear hno hs
        by_cases hm : (n : Int) % (s : Int) = 0
        · by_cases hf : (n : Int) + (s : Int) > (h : Int) + 1
          · have hb15 : b < 16 := by
              rcases Nat.lt_or_ge b 16 with h16 | h16
              · exact h16
              · have := HB.out (by omega)
                omega
            go_wp2_with (first
              | (go_at_call 36; refine (D.out _).mono ?_; rintro e w' ⟨rfl, rfl⟩))
            go_round
            case rel => exact ⟨b + 1, by omega, by go_num, next_no HNO.out (by rw [← HS.out]; exact .inr (by omega))⟩
            case measure => simp [intOf]; omega
          · have HG : Hid (gr n h = b) := gr_eq hlt ⟨hb16, (okP_iff _ _ _).2 (by rw [← HS.out]; exact ⟨by omega, by omega⟩), HNO.out⟩
            have HC : Hid (rng h n = (n, b) :: rng h (n + s)) := by
              have := rng_cons hlt
              rw [HG.out, ← HS.out] at this
              exact this
            go_wp2_with (first
              | (go_at_call 36; refine (D.out _).mono ?_; rintro e w' ⟨rfl, hw'⟩; rw [hw']; clear hw' w')
              | (refine wl_buildP rfl _ rfl (n : Int) (b : Int) rfl ?_)
              | (at_builtin; refine of_stopped ?_))
            unfold Stopped
            have hws := hb.size
            have a1 := heap_new wo (.cells (pv (n : Int) (b : Int)) 50) _ rfl
            have OWN3 : Hid ((wo.alloc (.cells (pv (n : Int) (b : Int)) 50)).ownsRow w.heap.size 50 2 u6 P.length (pcells P)) := OWN.out.alloc _
            have B3 := hb.alloc hb.size (.cells (pv (n : Int) (b : Int)) 50)
            refine wl_appendP rfl _ _ rfl w.heap.size _ P (n, b) rfl OWN3.out _ 1 rfl a1 (by omega) (by simp; omega) ?_
            intro v' w2 hown2 hgr
            have B4 : Below w.heap.size w w2 := B3.grown hgr (by simp; omega) (fun q hq => (OWN3.out.lt q hq).1)
            have OWN4 : Hid (w2.ownsRow w.heap.size 50 2 v' (P ++ [(n, b)]).length (pcells (P ++ [(n, b)]))) := hown2
            simp only [Act.put, List.setIfInBounds_toArray, List.set_cons_succ, List.set_cons_zero]
            clear hown2 hgr a1 OWN3 B3 OWN
            go_wp2_with (first
              | (go_at_call 36; refine (D.out _).mono ?_; rintro e w' ⟨rfl, rfl⟩))
            go_roundw
            case rel => exact ⟨n + s, by omega, by go_num, P ++ [(n, b)], by rw [List.append_assoc, List.singleton_append, ← HC.out]; exact HP.out, OWN4.out, B4⟩
            case measure => simp [intOf]; omega
        · have hb15 : b < 16 := by
            rcases Nat.lt_or_ge b 16 with h16 | h16
            · exact h16
            · have := HB.out (by omega)
              subst this
              omega
          go_wp2_with (first
            | (go_at_call 36; refine (D.out _).mono ?_; rintro e w' ⟨rfl, rfl⟩))
          go_round
          case rel => exact ⟨b + 1, by omega, by go_num, next_no HNO.out (by rw [← HS.out]; exact .inl (by omega))⟩
          case measure => simp [intOf]; omega
    · have HE : Hid (rng h n = []) := rng_nil (by omega)
      go_wp2_with fail
      go_ret2
      refine ⟨u6, rfl, ?_, hb⟩
      have := HP.out
      rw [HE.out, List.append_nil] at this
      rw [← this]; exact OWN.out

set_option maxHeartbeats 400000 in
theorem rrange_no (l h : Int) (hl : ¬ (0 ≤ l ∧ l ≤ h ∧ h ≤ 65535)) (w : World) :
    Calls Tryd.prog 21 #[.int .i64 l, .int .i64 h] w fun e w' => e = .returned (.tuple #[.slice none 0 0, .int .i64 10]) ∧ w' = w := by
  by_cases h0 : l < 0
  · go_enter Tryd.func21, Tryd.ntmps21
    go_wp2_with fail
    go_ret2
    exact ⟨rfl, rfl⟩
  · by_cases h1 : h > 65535
    · go_enter Tryd.func21, Tryd.ntmps21
      go_wp2_with fail
      go_ret2
      exact ⟨rfl, rfl⟩
    · have h2 : l > h := by omega
      clear hl
      go_enter Tryd.func21, Tryd.ntmps21
      go_wp2_with fail
      go_ret2
      exact ⟨rfl, rfl⟩

theorem rrange_any (l h : Int) (w : World) :
    Calls Tryd.prog 21 #[.int .i64 l, .int .i64 h] w fun e w' => ∃ u, e = .returned (.tuple #[u, .int .i64 (ranE l h)]) ∧ w'.ownsRow w.heap.size 50 2 u (ran l h).length (pcells (ran l h)) ∧ Below w.heap.size w w' := by
  unfold ran ranE
  by_cases c : isR l h = true
  · simp only [c, if_true]
    have := (isR_iff l h).1 c
    obtain ⟨l', rfl⟩ := Int.eq_ofNat_of_zero_le this.1
    obtain ⟨h', rfl⟩ := Int.eq_ofNat_of_zero_le (Int.le_trans this.1 this.2.1)
    exact rrange_ok l' h' (by omega) (by omega) w
  · have c' : isR l h = false := by simpa using c
    simp only [c', Bool.false_eq_true, if_false]
    refine (rrange_no l h (fun hc => c ((isR_iff l h).2 hc)) w).mono ?_
    rintro e w' ⟨rfl, rfl⟩
    exact ⟨_, rfl, World.ownsRow_nil _ _ _ _, Below.refl _ _⟩
end Go.Proofs.YtplnlmkmaapbaaaDoor
