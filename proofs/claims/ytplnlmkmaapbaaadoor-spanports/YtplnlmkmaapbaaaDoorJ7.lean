import Derived.Test.YtplnlmkmaapbaaaDoorJ6
import Derived.Test.YtplnlmkmaapbaaaDoorJ5
namespace Go.Proofs.YtplnlmkmaapbaaaDoor
open Go Go.RowKit

/-- Is this a range? -/
def isR (l h : Int) : Bool := decide (0 ≤ l) && decide (l ≤ h) && decide (h ≤ 65535)
theorem isR_iff (l h : Int) : isR l h = true ↔ 0 ≤ l ∧ l ≤ h ∧ h ≤ 65535 := by simp [isR, and_assoc]
/-- The pieces of a range, none where there is no range. -/
def ran (l h : Int) : List (Nat × Nat) := if isR l h then rng h.toNat l.toNat else []
def ranE (l h : Int) : Int := if isR l h then 0 else 10

theorem rng_le (h n : Nat) : (rng h n).length ≤ h + 1 - n := by
  refine rng_induct h (fun n => (rng h n).length ≤ h + 1 - n) (fun n hn => by rw [rng_nil hn]; exact Nat.zero_le _) (fun n hn ih => ?_) n
  rw [rng_cons hn, List.length_cons]
  have := rng_next hn
  omega

set_option maxHeartbeats 1000000 in
theorem range_ok (l h : Nat) (hl : l ≤ h) (hh : h ≤ 65535) (w : World) :
    Calls Tryd.prog 19 #[.int .i64 (l : Int), .int .i64 (h : Int)] w fun e w' => ∃ u, e = .returned (.tuple #[u, .int .i64 0]) ∧ w'.ownsRow w.heap.size 50 2 u (rng h l).length (pcells (rng h l)) ∧ Below w.heap.size w w' := by
  have GR : Hid (∀ n : Nat, n ≤ h → ∀ W, Calls Tryd.prog 29 #[.int .i64 (n : Int), .int .i64 (h : Int)] W fun e w' => e = .returned (.agg (pv (n : Int) ((gr n h : Nat) : Int))) ∧ Below W.heap.size W w') := fun n hn W => greatest_any n h hn hh W
  have HL : Hid ((rng h l).length ≤ 65536) := Nat.le_trans (rng_le h l) (by omega)
  have q0 : ¬ h < l := by omega
  have q1 : ¬ (65535 : Int) < (h : Int) := by omega
  have q2 : ¬ (l : Int) < 0 := by omega
  go_enter Tryd.func19, Tryd.ntmps19
  go_wp2_with fail
  clear q0 q1 q2
  go_loopw [0, 6] (fun i out wr => ∃ n : Nat, n ≤ h + 1 ∧ i = .int .i64 (n : Int) ∧ ∃ P : List (Nat × Nat), P ++ rng h n = rng h l ∧ wr.ownsRow w.heap.size 50 2 out P.length (pcells P) ∧ Below w.heap.size w wr) (fun i _ _ => h + 1 - (intOf i).toNat)
  case atStart => exact ⟨l, by omega, rfl, [], rfl, World.ownsRow_nil _ _ _ _, Below.refl _ _⟩
  case round =>
    obtain ⟨n, hn, rfl, P, hP, hown, hb⟩ := hrel
    have HP : Hid (P ++ rng h n = rng h l) := hP
    have hPl : P.length ≤ 65536 := by
      have := HL.out
      rw [← hP, List.length_append] at this
      omega
    have OWN : Hid (wr.ownsRow w.heap.size 50 2 u6 P.length (pcells P)) := hown
    clear hP hown
    by_cases hlt : n ≤ h
    · have D : Hid (∀ W, Calls Tryd.prog 29 #[.int .i64 (n : Int), .int .i64 (h : Int)] W fun e w' => e = .returned (.agg (pv (n : Int) ((gr n h : Nat) : Int))) ∧ Below W.heap.size W w') := GR.out n hlt
      have hg16 := (gr_is n h hlt).1
      have HC : Hid (rng h n = (n, gr n h) :: rng h (n + sz (gr n h))) := rng_cons hlt
      have hnx := rng_next hlt
      obtain ⟨b, hbb⟩ : ∃ b, b = gr n h := ⟨_, rfl⟩
      rw [← hbb] at D hg16 HC hnx
      have D2 : Hid (∀ W, Calls Tryd.prog 30 #[.agg (pv (n : Int) (b : Int))] W fun e w' => e = .returned (.int .i64 ((sz b : Nat) : Int)) ∧ Below W.heap.size W w') := fun W => size_any (n : Int) b hg16 W
      obtain ⟨s, hs⟩ : ∃ s, s = sz b := ⟨_, rfl⟩
      rw [← hs] at D2 HC hnx
      clear hbb hs
      go_wp2_with fail
      refine (D.out _).mono ?_
      rintro e w1 ⟨rfl, hb1⟩
      have B1 := hb.trans (hb1.mono hb.size)
      have OWN1 : Hid (w1.ownsRow w.heap.size 50 2 u6 P.length (pcells P)) := own_below OWN.out hb1
      clear OWN hb hb1
      go_wp2_with (first
        | (refine wl_loadP rfl _ rfl w1.heap.size 0 rfl _ _ _ (n : Int) (b : Int) (heap_new _ _ _ rfl) (own_piece _ _) ?_)
        | (refine wl_buildP rfl _ rfl (n : Int) (b : Int) rfl ?_)
        | (at_builtin; refine of_stopped ?_))
      unfold Stopped
      have a0 := heap_past (w1.alloc (.cells (pv (n : Int) (b : Int)) 50)) (.cells (pv (n : Int) (b : Int)) 50) _ _ (heap_new w1 (.cells (pv (n : Int) (b : Int)) 50) _ rfl)
      have a1 := heap_new (w1.alloc (.cells (pv (n : Int) (b : Int)) 50)) (.cells (pv (n : Int) (b : Int)) 50) (w1.heap.size + 1) (by simp)
      have OWN3 : Hid (((w1.alloc (.cells (pv (n : Int) (b : Int)) 50)).alloc (.cells (pv (n : Int) (b : Int)) 50)).ownsRow w.heap.size 50 2 u6 P.length (pcells P)) := (OWN1.out.alloc _).alloc _
      have B3 := (B1.alloc B1.size (.cells (pv (n : Int) (b : Int)) 50)).alloc (by simp; have := B1.size; omega) (.cells (pv (n : Int) (b : Int)) 50)
      refine wl_appendP rfl _ _ rfl w.heap.size _ P (n, b) rfl OWN3.out _ 1 rfl a1 (by omega) (by simp; have := B1.size; omega) ?_
      intro v' w2 hown2 hgr
      have B4 : Below w.heap.size w w2 := B3.grown hgr (by simp; have := B1.size; omega) (fun q hq => (OWN3.out.lt q hq).1)
      have g2 : w2.heap[w1.heap.size]? = some (.cells (pv (n : Int) (b : Int)) 50 (0, 0)) := by
        rw [hgr.block w1.heap.size (by simp; omega) (fun hq => absurd (OWN1.out.lt w1.heap.size hq.symm).2 (by omega))]
        exact a0
      obtain ⟨o2, cap2, rfl⟩ := own_slice hown2
      obtain ⟨v2, hv2⟩ : ∃ v2, v2 = Value.slice o2 (P ++ [(n, b)]).length cap2 := ⟨_, rfl⟩
      rw [← hv2] at hown2 ⊢
      have OWN4 : Hid (w2.ownsRow w.heap.size 50 2 v2 (P ++ [(n, b)]).length (pcells (P ++ [(n, b)]))) := hown2
      simp only [Act.put, List.setIfInBounds_toArray, List.set_cons_succ, List.set_cons_zero]
      clear hown2 hgr a0 a1 OWN3 B3 B1 OWN1 hv2
      go_wp2_with (first
        | (refine wl_loadP rfl _ rfl w1.heap.size 0 rfl _ _ _ (n : Int) (b : Int) g2 (own_piece _ _) ?_))
      refine (D2.out _).mono ?_
      rintro e w3 ⟨rfl, hb3⟩
      go_wp2_with fail
      go_roundw
      case rel => exact ⟨n + s, by omega, by go_num, P ++ [(n, b)], by rw [List.append_assoc, List.singleton_append, ← HC.out]; exact HP.out, own_below OWN4.out hb3, B4.trans (hb3.mono B4.size)⟩
      case measure => simp [intOf]; omega
    · have HE : Hid (rng h n = []) := rng_nil (by omega)
      go_wp2_with fail
      go_ret2
      refine ⟨u6, rfl, ?_, hb⟩
      have := HP.out
      rw [HE.out, List.append_nil] at this
      rw [← this]; exact OWN.out

set_option maxHeartbeats 400000 in
theorem range_no (l h : Int) (hl : ¬ (0 ≤ l ∧ l ≤ h ∧ h ≤ 65535)) (w : World) :
    Calls Tryd.prog 19 #[.int .i64 l, .int .i64 h] w fun e w' => e = .returned (.tuple #[.slice none 0 0, .int .i64 10]) ∧ w' = w := by
  by_cases h0 : l < 0
  · go_enter Tryd.func19, Tryd.ntmps19
    go_wp2_with fail
    go_ret2
    exact ⟨rfl, rfl⟩
  · by_cases h1 : l > h
    · go_enter Tryd.func19, Tryd.ntmps19
      go_wp2_with fail
      go_ret2
      exact ⟨rfl, rfl⟩
    · have h2 : h > 65535 := by omega
      clear hl
      go_enter Tryd.func19, Tryd.ntmps19
      go_wp2_with fail
      go_ret2
      exact ⟨rfl, rfl⟩

theorem range_any (l h : Int) (w : World) :
    Calls Tryd.prog 19 #[.int .i64 l, .int .i64 h] w fun e w' => ∃ u, e = .returned (.tuple #[u, .int .i64 (ranE l h)]) ∧ w'.ownsRow w.heap.size 50 2 u (ran l h).length (pcells (ran l h)) ∧ Below w.heap.size w w' := by
  unfold ran ranE
  by_cases c : isR l h = true
  · simp only [c, if_true]
    have := (isR_iff l h).1 c
    obtain ⟨l', rfl⟩ := Int.eq_ofNat_of_zero_le this.1
    obtain ⟨h', rfl⟩ := Int.eq_ofNat_of_zero_le (Int.le_trans this.1 this.2.1)
    exact range_ok l' h' (by omega) (by omega) w
  · have c' : isR l h = false := by simpa using c
    simp only [c', Bool.false_eq_true, if_false]
    refine (range_no l h (fun hc => c ((isR_iff l h).2 hc)) w).mono ?_
    rintro e w' ⟨rfl, rfl⟩
    exact ⟨_, rfl, World.ownsRow_nil _ _ _ _, Below.refl _ _⟩
end Go.Proofs.YtplnlmkmaapbaaaDoor
namespace Go.Proofs.YtplnlmkmaapbaaaDoor
open Go Go.RowKit

set_option maxHeartbeats 400000 in
theorem many_any (b : Nat) (hb : b ≤ 16) (w : World) :
    Calls Tryd.prog 36 #[.int .i64 (b : Int)] w fun e w' => e = .returned (.int .i64 ((sz b : Nat) : Int)) ∧ w' = w := by
  have H0 : Hid (∀ k, k ≤ 16 → b ≤ k → 2 ^ (k - b) ≤ 65536) := fun k h1 h2 => Nat.le_trans (Nat.pow_le_pow_right (by decide) (show k - b ≤ 16 by omega)) (by decide)
  go_enter Tryd.func36, Tryd.ntmps36
  go_wp2_with fail
  go_loop [3, 4] (fun n k => ∃ i : Nat, b ≤ i ∧ i ≤ 16 ∧ k = .int .i64 (i : Int) ∧ n = .int .i64 ((2 ^ (i - b) : Nat) : Int)) (fun _ k => 16 - (intOf k).toNat)
  case atStart => exact ⟨b, Nat.le_refl _, hb, rfl, by rw [Nat.sub_self]; rfl⟩
  case round =>
    obtain ⟨i, h1, h2, rfl, rfl⟩ := hrel
    have hp := H0.out i h2 h1
    have HS : Hid (2 ^ (i + 1 - b) = 2 ^ (i - b) * 2) := by
      show 2 ^ (i + 1 - b) = 2 ^ (i - b) * 2
      rw [show i + 1 - b = (i - b) + 1 by omega, Nat.pow_succ]
    have HE : Hid (i = 16 → 2 ^ (i - b) = sz b) := fun e => by subst e; rfl
    obtain ⟨x, hx⟩ : ∃ x, x = 2 ^ (i - b) := ⟨_, rfl⟩
    rw [← hx] at hp HS HE ⊢
    clear hx
    by_cases hlt : i < 16
    · go_wp2_with fail
      go_round
      case rel => exact ⟨i + 1, by omega, by omega, by go_num, by rw [HS.out]; go_num⟩
      case measure => simp [intOf]; omega
    · go_wp2_with fail
      go_ret
      exact ⟨ret_int (by rw [HE.out (by omega)]), rfl⟩

set_option maxHeartbeats 1000000 in
theorem rrange_ok (l h : Nat) (hl : l ≤ h) (hh : h ≤ 65535) (w : World) :
    Calls Tryd.prog 21 #[.int .i64 (l : Int), .int .i64 (h : Int)] w fun e w' => ∃ u, e = .returned (.tuple #[u, .int .i64 0]) ∧ w'.ownsRow w.heap.size 50 2 u (rng h l).length (pcells (rng h l)) ∧ Below w.heap.size w w' := by
  have MY : Hid (∀ b : Nat, b ≤ 16 → ∀ W, Calls Tryd.prog 36 #[.int .i64 (b : Int)] W fun e w' => e = .returned (.int .i64 ((sz b : Nat) : Int)) ∧ w' = W) := fun b hb W => many_any b hb W
  have HL : Hid ((rng h l).length ≤ 65536) := Nat.le_trans (rng_le h l) (by omega)
  have q0 : ¬ h < l := by omega
  have q1 : ¬ (65535 : Int) < (h : Int) := by omega
  have q2 : ¬ (l : Int) < 0 := by omega
  have n0 := heap_new w (.cells #[] 50) _ rfl
  go_enter Tryd.func21, Tryd.ntmps21
  go_wp2_with fail
  clear q0 q1 q2
  go_loopw [6, 7] (fun out i wr => ∃ n : Nat, n ≤ h + 1 ∧ i = .int .i64 (n : Int) ∧ ∃ P : List (Nat × Nat), P ++ rng h n = rng h l ∧ wr.ownsRow w.heap.size 50 2 out P.length (pcells P) ∧ Below w.heap.size w wr) (fun _ i _ => h + 1 - (intOf i).toNat)
  case atStart => exact ⟨l, by omega, rfl, [], rfl, ⟨rfl, Or.inr ⟨w.heap.size, 0, #[], rfl, Nat.le_refl _, n0, Nat.le_refl _, by decide, rfl, rfl⟩⟩, (Below.refl _ _).alloc (Nat.le_refl _) _⟩
  case round =>
    obtain ⟨n, hn, rfl, P, hP, hown, hb⟩ := hrel
    have HP : Hid (P ++ rng h n = rng h l) := hP
    have hPl : P.length ≤ 65536 := by
      have := HL.out
      rw [← hP, List.length_append] at this
      omega
    have OWN : Hid (wr.ownsRow w.heap.size 50 2 u6 P.length (pcells P)) := hown
    clear hP hown n0
    obtain ⟨wo, hwo⟩ : ∃ wo : World, wo = wr := ⟨_, rfl⟩
    rw [← hwo] at hb OWN ⊢
    clear hwo
    by_cases hlt : n ≤ h
    · go_wp2_with fail
      go_loop [8] (fun x => ∃ b : Nat, b ≤ 16 ∧ x = .int .i64 (b : Int) ∧ ∀ c, c < b → okP n h c = false) (fun x => 16 - (intOf x).toNat)
      case atStart => exact ⟨0, Nat.zero_le _, rfl, fun c hc => by omega⟩
      case round =>
        obtain ⟨b, hb16, rfl, hno⟩ := hrel
        have D : Hid (∀ W, Calls Tryd.prog 36 #[.int .i64 (b : Int)] W fun e w' => e = .returned (.int .i64 ((sz b : Nat) : Int)) ∧ w' = W) := MY.out b hb16
        have HNO : Hid (∀ c, c < b → okP n h c = false) := hno
        have hs0 := sz_pos b
        have hs1 := sz_le b
        obtain ⟨s, hs⟩ : ∃ s, s = sz b := ⟨_, rfl⟩
        rw [← hs] at D hs0 hs1
        have HS : Hid (s = sz b) := hs
        have HB : Hid (b = 16 → s = 1) := fun e => by subst e; rw [HS.out, sz_16]
        clear hno hs
        by_cases hm : (n : Int) % (s : Int) = 0
        · by_cases hf : (n : Int) + (s : Int) > (h : Int) + 1
          · have hb15 : b < 16 := by
              rcases Nat.lt_or_ge b 16 with h16 | h16
              · exact h16
              · have := HB.out (by omega)
                omega
            go_wp2_with (first
              | (go_at_call 36; refine (D.out _).mono ?_; rintro e w' ⟨rfl, rfl⟩))
            go_round
            case rel => exact ⟨b + 1, by omega, by go_num, next_no HNO.out (by rw [← HS.out]; exact .inr (by omega))⟩
            case measure => simp [intOf]; omega
          · have HG : Hid (gr n h = b) := gr_eq hlt ⟨hb16, (okP_iff _ _ _).2 (by rw [← HS.out]; exact ⟨by omega, by omega⟩), HNO.out⟩
            have HC : Hid (rng h n = (n, b) :: rng h (n + s)) := by
              have := rng_cons hlt
              rw [HG.out, ← HS.out] at this
              exact this
            go_wp2_with (first
              | (go_at_call 36; refine (D.out _).mono ?_; rintro e w' ⟨rfl, hw'⟩; rw [hw']; clear hw' w')
              | (refine wl_buildP rfl _ rfl (n : Int) (b : Int) rfl ?_)
              | (at_builtin; refine of_stopped ?_))
            unfold Stopped
            have hws := hb.size
            have a1 := heap_new wo (.cells (pv (n : Int) (b : Int)) 50) _ rfl
            have OWN3 : Hid ((wo.alloc (.cells (pv (n : Int) (b : Int)) 50)).ownsRow w.heap.size 50 2 u6 P.length (pcells P)) := OWN.out.alloc _
            have B3 := hb.alloc hb.size (.cells (pv (n : Int) (b : Int)) 50)
            refine wl_appendP rfl _ _ rfl w.heap.size _ P (n, b) rfl OWN3.out _ 1 rfl a1 (by omega) (by simp; omega) ?_
            intro v' w2 hown2 hgr
            have B4 : Below w.heap.size w w2 := B3.grown hgr (by simp; omega) (fun q hq => (OWN3.out.lt q hq).1)
            have OWN4 : Hid (w2.ownsRow w.heap.size 50 2 v' (P ++ [(n, b)]).length (pcells (P ++ [(n, b)]))) := hown2
            simp only [Act.put, List.setIfInBounds_toArray, List.set_cons_succ, List.set_cons_zero]
            clear hown2 hgr a1 OWN3 B3 OWN
            go_wp2_with (first
              | (go_at_call 36; refine (D.out _).mono ?_; rintro e w' ⟨rfl, rfl⟩))
            go_roundw
            case rel => exact ⟨n + s, by omega, by go_num, P ++ [(n, b)], by rw [List.append_assoc, List.singleton_append, ← HC.out]; exact HP.out, OWN4.out, B4⟩
            case measure => simp [intOf]; omega
        · have hb15 : b < 16 := by
            rcases Nat.lt_or_ge b 16 with h16 | h16
            · exact h16
            · have := HB.out (by omega)
              subst this
              omega
          go_wp2_with (first
            | (go_at_call 36; refine (D.out _).mono ?_; rintro e w' ⟨rfl, rfl⟩))
          go_round
          case rel => exact ⟨b + 1, by omega, by go_num, next_no HNO.out (by rw [← HS.out]; exact .inl (by omega))⟩
          case measure => simp [intOf]; omega
    · have HE : Hid (rng h n = []) := rng_nil (by omega)
      go_wp2_with fail
      go_ret2
      refine ⟨u6, rfl, ?_, hb⟩
      have := HP.out
      rw [HE.out, List.append_nil] at this
      rw [← this]; exact OWN.out

set_option maxHeartbeats 400000 in
theorem rrange_no (l h : Int) (hl : ¬ (0 ≤ l ∧ l ≤ h ∧ h ≤ 65535)) (w : World) :
    Calls Tryd.prog 21 #[.int .i64 l, .int .i64 h] w fun e w' => e = .returned (.tuple #[.slice none 0 0, .int .i64 10]) ∧ w' = w := by
  by_cases h0 : l < 0
  · go_enter Tryd.func21, Tryd.ntmps21
    go_wp2_with fail
    go_ret2
    exact ⟨rfl, rfl⟩
  · by_cases h1 : h > 65535
    · go_enter Tryd.func21, Tryd.ntmps21
      go_wp2_with fail
      go_ret2
      exact ⟨rfl, rfl⟩
    · have h2 : l > h := by omega
      clear hl
      go_enter Tryd.func21, Tryd.ntmps21
      go_wp2_with fail
      go_ret2
      exact ⟨rfl, rfl⟩

theorem rrange_any (l h : Int) (w : World) :
    Calls Tryd.prog 21 #[.int .i64 l, .int .i64 h] w fun e w' => ∃ u, e = .returned (.tuple #[u, .int .i64 (ranE l h)]) ∧ w'.ownsRow w.heap.size 50 2 u (ran l h).length (pcells (ran l h)) ∧ Below w.heap.size w w' := by
  unfold ran ranE
  by_cases c : isR l h = true
  · simp only [c, if_true]
    have := (isR_iff l h).1 c
    obtain ⟨l', rfl⟩ := Int.eq_ofNat_of_zero_le this.1
    obtain ⟨h', rfl⟩ := Int.eq_ofNat_of_zero_le (Int.le_trans this.1 this.2.1)
    exact rrange_ok l' h' (by omega) (by omega) w
  · have c' : isR l h = false := by simpa using c
    simp only [c', Bool.false_eq_true, if_false]
    refine (rrange_no l h (fun hc => c ((isR_iff l h).2 hc)) w).mono ?_
    rintro e w' ⟨rfl, rfl⟩
    exact ⟨_, rfl, World.ownsRow_nil _ _ _ _, Below.refl _ _⟩
end Go.Proofs.YtplnlmkmaapbaaaDoor
namespace Go.Proofs.YtplnlmkmaapbaaaDoor
open Go Go.RowKit

theorem load_num (w : World) (g k : Nat) (cs : Array Value) (t : TypeId) (fr : Nat × Nat) (n : Int) (hg : w.heap[g]? = some (.cells cs t fr)) (hc : cs[k]? = some (.int .i64 n)) :
    (loadVar 3 ⟨g, k, none⟩).run Tryd.prog w = .ok (.int .i64 n) w := by
  have hagg : (isAgg 3).run Tryd.prog w = .ok false w := by kernel_rfl
  have h1 : w.cell? ⟨g, k, none⟩ = some (.int .i64 n) := by rw [cell_of_row w g k cs t fr hg, hc]
  simp [loadVar, Sem.run_bind, hagg, h1]
theorem qlN {W : World} {ops : Array Oper} {Q : Act → Prop} {rest : List Oper} {o : Oper} {a : Act} (hw : Region.wanted o (yielded ops a.tmps) = true) (x : Operand) (ho : o.op = .load 3 x)
    (g k : Nat) (hx : a.eval x = .pointer (some ⟨g, k, none⟩)) (cs : Array Value) (t : TypeId) (fr : Nat × Nat) (n : Int) (hg : W.heap[g]? = some (.cells cs t fr)) (hc : cs[k]? = some (.int .i64 n))
    (h : wpQuiet Tryd.prog ops (fun w' => ∃ u : Later W, w' = u.world) Q rest (a.put o.dst (.int .i64 n))) : wpQuiet Tryd.prog ops (fun w' => ∃ u : Later W, w' = u.world) Q (o :: rest) a := by
  refine BigFrame.wpQuiet_want hw fun K hK => ⟨.int .i64 n, fun w hC => ?_, hK _ h⟩
  unfold Oper.quietAt execOp
  simp only [ho, hx, Instr.loadAt, Instr.sureAddr, Sem.run_bind, Sem.run_pure, Result.andThen_ok, load_num w g k cs t fr n (later_block hg w hC) hc]
  exact ⟨rfl, rfl⟩
theorem Calls.later_same {P : Program} {f : FuncId} {args : Array Value} {W : World} {u : Later W} {v : Value}
    (h : Calls P f args u.world fun e w' => e = .returned v ∧ w' = u.world) : Calls P f args u.world fun e w'' => e = .returned v ∧ ∃ u' : Later W, w'' = u'.world :=
  h.mono fun _ _ ⟨he, hb⟩ => ⟨he, u, hb⟩

end Go.Proofs.YtplnlmkmaapbaaaDoor
namespace Go.Proofs.YtplnlmkmaapbaaaDoor
open Go Go.RowKit

theorem hbit_in (A : List Int) (k j : Nat) (hk : k < 13) (hj : j < 8) : bitB A ((8 * k + j : Nat) : Int) = (A.getD k 0 / 2 ^ (7 - j) % 2 == 1) := by
  unfold bitB byteAt
  rw [decide_eq_true (by omega), Bool.true_and, show (((8 * k + j : Nat) : Int) / 8).toNat = k by omega, show (7 - ((8 * k + j : Nat) : Int) % 8).toNat = 7 - j by omega]

theorem hbyte_eq (x y : Int) (hx : 0 ≤ x ∧ x < 256) (hy : 0 ≤ y ∧ y < 256) (h : ∀ j, j < 8 → (x / 2 ^ (7 - j) % 2 == 1) = (y / 2 ^ (7 - j) % 2 == 1)) : x = y := by
  have g : ∀ j, j < 8 → x / 2 ^ (7 - j) % 2 = y / 2 ^ (7 - j) % 2 := fun j hj => by
    have := h j hj
    rw [Bool.eq_iff_iff, beq_iff_eq, beq_iff_eq] at this
    have a1 : x / 2 ^ (7 - j) % 2 = 0 ∨ x / 2 ^ (7 - j) % 2 = 1 := by omega
    have a2 : y / 2 ^ (7 - j) % 2 = 0 ∨ y / 2 ^ (7 - j) % 2 = 1 := by omega
    omega
  have g0 := g 0 (by decide)
  have g1 := g 1 (by decide)
  have g2 := g 2 (by decide)
  have g3 := g 3 (by decide)
  have g4 := g 4 (by decide)
  have g5 := g 5 (by decide)
  have g6 := g 6 (by decide)
  have g7 := g 7 (by decide)
  simp only [Nat.sub_zero, Nat.reduceSub, Int.reducePow, Int.pow_zero, Int.ediv_one] at g0 g1 g2 g3 g4 g5 g6 g7
  omega
set_option maxHeartbeats 400000 in
theorem refWith_no (L : List Int) (f v : Int) (w : World) (hf : f < 0 ∨ 5 ≤ f) :
    Calls Tryd.prog 22 #[.agg (hv L), .int .i64 f, .int .u32 v] w fun e w' => e = .returned (.tuple #[.agg (hv Z13), .int .i64 1]) ∧ Below w.heap.size w w' := by
  go_enter Tryd.func22, Tryd.ntmps22
  go_wp2_with (first
    | (go_at_call 25; refine (first_no _ _ hf).mono ?_; rintro e w' ⟨rfl, rfl⟩)
    | (refine wl_store26 rfl _ _ rfl (w.heap.size + 1) Z13 rfl rfl _ (heap_new _ _ _ (by simp)) rfl rfl _ (setRow_new _ _ _ _ _ (by simp)) ?_))
  refine ret26e (p := 6) (u := 7) rfl rfl (w.heap.size + 1) rfl Z13 rfl (heap_new _ _ _ (by simp)) _ rfl ⟨rfl, ?_⟩
  exact ((Below.refl _ _).alloc (Nat.le_refl _) _).alloc (by simp) _

/-- The byte of a number that lies in the header's bytes, and so its bits. -/
theorem getN_byte (L : List Int) (hL : Byt L) (at0 : Nat) : ∀ (s m : Nat), m < s → getN L at0 s / 2 ^ (8 * (s - 1 - m)) % 256 = L.getD (at0 + m) 0
  | 0, _, h => by omega
  | s + 1, m, h => by
    have hb := hL.2 (at0 + s)
    by_cases e : m = s
    · subst e
      simp only [getN, Nat.add_sub_cancel, Nat.sub_self, Nat.mul_zero, Int.pow_zero, Int.ediv_one]
      omega
    · have ih := getN_byte L hL at0 s m (by omega)
      have e1 : 8 * (s + 1 - 1 - m) = 8 + 8 * (s - 1 - m) := by omega
      rw [e1, Int.pow_add, ← Int.ediv_ediv_of_nonneg (by decide)]
      have e2 : getN L at0 (s + 1) / 2 ^ 8 = getN L at0 s := by
        simp only [getN]
        omega
      rw [e2]; exact ih

theorem bit_of_byte (g : Int) (t j : Nat) (hj : j < 8) : g / 2 ^ (8 * t) % 256 / 2 ^ (7 - j) % 2 = g / 2 ^ (8 * t + (7 - j)) % 2 := by
  rw [Int.pow_add, ← Int.ediv_ediv_of_nonneg (Int.pow_nonneg (by decide))]
  generalize g / 2 ^ (8 * t) = y
  rcases (show j = 0 ∨ j = 1 ∨ j = 2 ∨ j = 3 ∨ j = 4 ∨ j = 5 ∨ j = 6 ∨ j = 7 by omega) with e | e | e | e | e | e | e | e <;> subst e <;> simp only [Nat.sub_zero, Nat.sub_self, Nat.reduceSub, Int.reducePow, Int.pow_zero, Int.ediv_one] <;> omega

theorem getN_bit (L : List Int) (hL : Byt L) (at0 size i : Nat) (hs : at0 + size ≤ 13) (hi : i < 8 * size) :
    bitB L ((8 * at0 + i : Nat) : Int) = (getN L at0 size / 2 ^ (8 * size - 1 - i) % 2 == 1) := by
  have e : 8 * at0 + i = 8 * (at0 + i / 8) + i % 8 := by omega
  rw [e, hbit_in L (at0 + i / 8) (i % 8) (by omega) (by omega), ← getN_byte L hL at0 size (i / 8) (by omega), bit_of_byte _ _ _ (by omega), show 8 * (size - 1 - i / 8) + (7 - i % 8) = 8 * size - 1 - i by omega]

theorem getN_half (g : Int) (W i : Nat) (hi : i < W) : g / 2 ^ (W - i) * 2 + g / 2 ^ (W - 1 - i) % 2 = g / 2 ^ (W - 1 - i) := by
  have e : W - i = (W - 1 - i) + 1 := by omega
  rw [e, Int.pow_succ, ← Int.ediv_ediv_of_nonneg (Int.pow_nonneg (by decide))]
  generalize g / 2 ^ (W - 1 - i) = y
  omega

set_option maxHeartbeats 2000000 in
theorem refField_core (L : List Int) (hL : Byt L) (f : Int) (at0 size : Nat) (w : World) (hs : at0 + size ≤ 13) (hs4 : size ≤ 4)
    (c17 : ∀ W, Calls Tryd.prog 25 #[.int .i64 f] W fun e w' => e = .returned (.int .i64 ((8 * at0 : Nat) : Int)) ∧ w' = W)
    (c18 : ∀ W, Calls Tryd.prog 26 #[.int .i64 f] W fun e w' => e = .returned (.int .i64 ((8 * size : Nat) : Int)) ∧ w' = W) :
    Calls Tryd.prog 11 #[.agg (hv L), .int .i64 f] w fun e w' => e = .returned (.tuple #[.int .u32 (getN L at0 size), .int .i64 0]) ∧ Below w.heap.size w w' := by
  have hl := hL.1
  have hg := getN_bd L hL at0 size
  have hg32 : getN L at0 size < 4294967296 := by
    have : (256 : Int) ^ size ≤ 4294967296 := by
      rcases (show size = 0 ∨ size = 1 ∨ size = 2 ∨ size = 3 ∨ size = 4 by omega) with h | h | h | h | h <;> subst h <;> decide
    omega
  obtain ⟨F, hF⟩ : ∃ F : Nat, F = 8 * at0 := ⟨_, rfl⟩
  obtain ⟨Wd, hW⟩ : ∃ Wd : Nat, Wd = 8 * size := ⟨_, rfl⟩
  obtain ⟨g, hgg⟩ : ∃ g : Int, g = getN L at0 size := ⟨_, rfl⟩
  have hbit : ∀ i : Nat, i < Wd → bitB L ((F : Int) + (i : Int)) = (g / 2 ^ (Wd - 1 - i) % 2 == 1) := fun i hi => by
    rw [hF, hW, hgg]
    have := getN_bit L hL at0 size i hs (by omega)
    rw [← this]; congr 1
  rw [← hF] at c17
  rw [← hW] at c18
  rw [← hgg] at hg hg32 ⊢
  have hW32 : Wd ≤ 32 := by omega
  have hF104 : F + Wd ≤ 104 := by omega
  have hgW : g < 2 ^ Wd := by
    rw [hW, Int.pow_mul]; exact hg.2
  have hg0 := hg.1
  have K17 : Hid _ := c17
  have K18 : Hid _ := c18
  have HBIT : Hid _ := hbit
  have HGW : Hid (g < 2 ^ Wd) := hgW
  have HG : Hid (g < 4294967296) := hg32
  clear c17 c18 hbit hgW hg32 hg hF hW hgg hs hs4
  go_enter Tryd.func11, Tryd.ntmps11
  go_wp2_with (first
    | (go_at_call 25; refine (K17.out _).mono ?_; rintro e w' ⟨rfl, rfl⟩))
  go_loopw [6, 7] (fun x i wr => ∃ k : Nat, k ≤ Wd ∧ i = .int .i64 (k : Int) ∧ x = .int .u32 (g / 2 ^ (Wd - k)) ∧ wr.heap[w.heap.size]? = some (.cells (hv L) 23 (0, 0)) ∧ Below w.heap.size w wr) (fun _ i _ => Wd - (intOf i).toNat)
  case atStart =>
    refine ⟨0, Nat.zero_le _, rfl, ?_, heap_new _ _ _ rfl, (Below.refl _ _).alloc (Nat.le_refl _) _⟩
    rw [Nat.sub_zero, Int.ediv_eq_zero_of_lt hg0 HGW.out]
  case round =>
    obtain ⟨k, hk, rfl, rfl, g1, hbw⟩ := hrel
    by_cases hlt : k < Wd
    · have hy0 : 0 ≤ g / 2 ^ (Wd - k) := Int.ediv_nonneg hg0 (Int.pow_nonneg (by decide))
      have hz0 : 0 ≤ g / 2 ^ (Wd - 1 - k) := Int.ediv_nonneg hg0 (Int.pow_nonneg (by decide))
      have hz1 : g / 2 ^ (Wd - 1 - k) ≤ g := Int.ediv_le_self _ hg0
      have hh := getN_half g Wd k hlt
      have hG := HG.out
      obtain ⟨y, hy⟩ : ∃ y : Int, y = g / 2 ^ (Wd - k) := ⟨_, rfl⟩
      obtain ⟨z, hz⟩ : ∃ z : Int, z = g / 2 ^ (Wd - 1 - k) := ⟨_, rfl⟩
      rw [← hy, ← hz] at hh
      rw [← hz] at hz0 hz1
      rw [← hy] at hy0 ⊢
      have hb := HBIT.out k hlt
      rw [← hz] at hb
      have cb := refBit_any L hL ((F : Int) + (k : Int))
      rw [hb] at cb
      have HZ : Hid (z = g / 2 ^ (Wd - 1 - k)) := hz
      have HH : Hid (y * 2 + z % 2 = z) := hh
      have hy1 : y * 2 ≤ 4294967295 := by omega
      have ne1 := Later.ne wr
      rcases (show z % 2 = 1 ∨ z % 2 = 0 by omega) with hm | hm
      · have hy2 : y * 2 + 1 ≤ 4294967295 := by omega
        rw [hm, show ((1 : Int) == 1) = true from rfl] at cb
        have HM : Hid (z % 2 = 1) := hm
        clear hy hz hb hG hh hm
        have CB : Hid _ := cb
        clear cb
        go_wp2_with (first
          | (go_at_call 26; refine (K18.out _).mono ?_; rintro e w' ⟨rfl, rfl⟩))
        refine wp_region_later (by kernel_rfl) (by kernel_rfl) ?_
        refine qlH rfl _ rfl w.heap.size rfl L g1 hl ?_
        simp only [Act.put, List.setIfInBounds_toArray, List.set_cons_succ, List.set_cons_zero]
        go_big_quiet_step (fail)
        go_big_quiet_want; go_big_quiet_op
        refine ⟨_, fun u => Calls.later_same (K17.out u.world), ?_⟩
        go_big_quiet_on
        go_big_quiet_step (fail)
        go_big_quiet_step (fail)
        go_big_quiet_want; go_big_quiet_op
        refine ⟨_, fun u => Calls.later_of (CB.out u.world), ?_⟩
        go_big_quiet_on
        refine wpQuiet_nil ?_
        rintro w2 ⟨u, rfl⟩
        go_wp2_with fail
        go_roundw
        case rel =>
          refine ⟨k + 1, by omega, by go_num, ?_, later_block g1 _ ⟨u, rfl⟩, hbw.trans (u.below.mono hbw.size)⟩
          rw [show Wd - (k + 1) = Wd - 1 - k by omega, ← HZ.out]
          congr 1
          have := HH.out
          have := HM.out
          omega
        case measure => simp [intOf]; omega
      · rw [hm, show ((0 : Int) == 1) = false from rfl] at cb
        have HM : Hid (z % 2 = 0) := hm
        clear hy hz hb hG hh hm
        have CB : Hid _ := cb
        clear cb
        go_wp2_with (first
          | (go_at_call 26; refine (K18.out _).mono ?_; rintro e w' ⟨rfl, rfl⟩))
        refine wp_region_later (by kernel_rfl) (by kernel_rfl) ?_
        refine qlH rfl _ rfl w.heap.size rfl L g1 hl ?_
        simp only [Act.put, List.setIfInBounds_toArray, List.set_cons_succ, List.set_cons_zero]
        go_big_quiet_step (fail)
        go_big_quiet_want; go_big_quiet_op
        refine ⟨_, fun u => Calls.later_same (K17.out u.world), ?_⟩
        go_big_quiet_on
        go_big_quiet_step (fail)
        go_big_quiet_step (fail)
        go_big_quiet_want; go_big_quiet_op
        refine ⟨_, fun u => Calls.later_of (CB.out u.world), ?_⟩
        go_big_quiet_on
        refine wpQuiet_nil ?_
        rintro w2 ⟨u, rfl⟩
        go_wp2_with fail
        go_roundw
        case rel =>
          refine ⟨k + 1, by omega, by go_num, ?_, later_block g1 _ ⟨u, rfl⟩, hbw.trans (u.below.mono hbw.size)⟩
          rw [show Wd - (k + 1) = Wd - 1 - k by omega, ← HZ.out]
          congr 1
          have := HH.out
          have := HM.out
          omega
        case measure => simp [intOf]; omega
    · obtain rfl : k = Wd := by omega
      go_wp2_with (first
        | (go_at_call 26; refine (K18.out _).mono ?_; rintro e w' ⟨rfl, rfl⟩))
      go_ret2
      exact ⟨rfl, hbw⟩
end Go.Proofs.YtplnlmkmaapbaaaDoor
namespace Go.Proofs.YtplnlmkmaapbaaaDoor
open Go Go.RowKit

set_option maxHeartbeats 400000 in
theorem refField_no (L : List Int) (f : Int) (w : World) (hf : f < 0 ∨ 5 ≤ f) :
    Calls Tryd.prog 11 #[.agg (hv L), .int .i64 f] w fun e w' => e = .returned (.tuple #[.int .u32 0, .int .i64 1]) ∧ Below w.heap.size w w' := by
  go_enter Tryd.func11, Tryd.ntmps11
  go_wp2_with (go_at_call 25; refine (first_no _ _ hf).mono ?_; rintro e w' ⟨rfl, rfl⟩)
  go_ret2
  exact ⟨rfl, (Below.refl _ _).alloc (Nat.le_refl _) _⟩

theorem first_at (f : Int) (h0 : 0 ≤ f) (h1 : f < 5) (W : World) : Calls Tryd.prog 25 #[.int .i64 f] W fun e w' => e = .returned (.int .i64 ((8 * atOf f : Nat) : Int)) ∧ w' = W := by
  have h := first_in f W h0 h1
  rw [(place_facts f h0 h1).1] at h
  rw [Int.natCast_mul]; exact h
theorem width_at (f : Int) (h0 : 0 ≤ f) (h1 : f < 5) (W : World) : Calls Tryd.prog 26 #[.int .i64 f] W fun e w' => e = .returned (.int .i64 ((8 * sizeOfF f : Nat) : Int)) ∧ w' = W := by
  have h := width_in f W h0 h1
  rw [(place_facts f h0 h1).2.1] at h
  rw [Int.natCast_mul]; exact h

theorem refField_ok (L : List Int) (hL : Byt L) (f : Int) (w : World) (h0 : 0 ≤ f) (h1 : f < 5) :
    Calls Tryd.prog 11 #[.agg (hv L), .int .i64 f] w fun e w' => e = .returned (.tuple #[.int .u32 (getN L (atOf f) (sizeOfF f)), .int .i64 0]) ∧ Below w.heap.size w w' := by
  obtain ⟨_, _, a1, a2, _⟩ := place_facts f h0 h1
  exact refField_core L hL f (atOf f) (sizeOfF f) w a1 a2 (first_at f h0 h1) (width_at f h0 h1)

theorem putN_at (L : List Int) (at0 size : Nat) (v : Int) : ∀ n, at0 + n ≤ L.length → ∀ k, (putN L at0 size v n).getD k 0 = if at0 ≤ k ∧ k < at0 + n then v / 2 ^ (8 * (size - 1 - (k - at0))) % 256 else L.getD k 0
  | 0, _, k => by rw [if_neg (by omega)]; rfl
  | n + 1, h, k => by
    show ((putN L at0 size v n).set (at0 + n) _).getD k 0 = _
    rw [getD_set _ _ _ _ (by rw [putN_length]; omega)]
    by_cases e : at0 + n = k
    · rw [if_pos e, if_pos (by omega), show k - at0 = n by omega]
    · rw [if_neg e, putN_at L at0 size v n (by omega) k]
      by_cases e2 : at0 ≤ k ∧ k < at0 + n
      · rw [if_pos e2, if_pos (by omega)]
      · rw [if_neg e2, if_neg (by omega)]
theorem putN_byt (L : List Int) (hL : Byt L) (at0 size : Nat) (v : Int) (hs : at0 + size ≤ 13) : Byt (putN L at0 size v size) := by
  refine ⟨by rw [putN_length]; exact hL.1, fun k => ?_⟩
  rw [putN_at L at0 size v size (by rw [hL.1]; exact hs) k]
  split
  · exact ⟨Int.emod_nonneg _ (by decide), Int.emod_lt_of_pos _ (by decide)⟩
  · exact hL.2 k

theorem head_ext (A B : List Int) (hA : Byt A) (hB : Byt B) (h : ∀ k : Nat, k < 104 → bitB A (k : Int) = bitB B (k : Int)) : A = B :=
  bt_ext A B hA hB fun i hi => by rw [← bitB_bt A i hi, ← bitB_bt B i hi]; exact h i hi

theorem withB_put (L : List Int) (hL : Byt L) (at0 size v : Nat) (hs : at0 + size ≤ 13) : withB L (8 * at0) (8 * size) v (8 * size) = putN L at0 size (v : Int) size := by
  obtain ⟨h1, h2⟩ := withB_bit L hL (8 * at0) (8 * size) v (by omega) (8 * size) (by omega)
  refine head_ext _ _ h1 (putN_byt L hL at0 size v hs) fun k hk => ?_
  rw [h2 k hk]
  have e : k = 8 * (k / 8) + k % 8 := by omega
  have hb := hbit_in (putN L at0 size (v : Int) size) (k / 8) (k % 8) (by omega) (by omega)
  rw [← e, putN_at L at0 size v size (by rw [hL.1]; exact hs)] at hb
  rw [hb]
  by_cases c : 8 * at0 + 8 * size - 8 * size ≤ k ∧ k < 8 * at0 + 8 * size
  · rw [if_pos c, if_pos (by omega), bit_of_byte _ _ _ (by omega), show 8 * (size - 1 - (k / 8 - at0)) + (7 - k % 8) = 8 * at0 + 8 * size - 1 - k by omega, Bool.eq_iff_iff, beq_iff_eq, beq_iff_eq]
    have hc : (v : Int) / 2 ^ (8 * at0 + 8 * size - 1 - k) = ((v / 2 ^ (8 * at0 + 8 * size - 1 - k) : Nat) : Int) := by simp
    rw [hc]; omega
  · rw [if_neg c, if_neg (by omega)]
    have hb2 := hbit_in L (k / 8) (k % 8) (by omega) (by omega)
    rw [← e] at hb2
    exact hb2

theorem refWith_ok (L : List Int) (hL : Byt L) (f v : Int) (w : World) (h0 : 0 ≤ f) (h1 : f < 5) (hv0 : 0 ≤ v) (hv1 : v < 4294967296) (hvw : v < 2 ^ (8 * sizeOfF f)) :
    Calls Tryd.prog 22 #[.agg (hv L), .int .i64 f, .int .u32 v] w fun e w' => e = .returned (.tuple #[.agg (hv (putN L (atOf f) (sizeOfF f) v (sizeOfF f))), .int .i64 0]) ∧ Below w.heap.size w w' := by
  obtain ⟨n, rfl⟩ := Int.eq_ofNat_of_zero_le hv0
  obtain ⟨_, _, a1, a2, a3⟩ := place_facts f h0 h1
  refine (refWith_core L hL f (8 * atOf f) (8 * sizeOfF f) n w (by omega) (by omega) (by omega) (first_at f h0 h1) (width_at f h0 h1)).mono fun e w' h => ⟨?_, h.2.2⟩
  rw [h.1 (by exact_mod_cast hvw), withB_put L hL _ _ _ a1]
theorem refWith_big (L : List Int) (hL : Byt L) (f v : Int) (w : World) (h0 : 0 ≤ f) (h1 : f < 5) (hv0 : 0 ≤ v) (hv1 : v < 4294967296) (hvw : ¬ v < 2 ^ (8 * sizeOfF f)) :
    Calls Tryd.prog 22 #[.agg (hv L), .int .i64 f, .int .u32 v] w fun e w' => e = .returned (.tuple #[.agg (hv Z13), .int .i64 10]) ∧ Below w.heap.size w w' := by
  obtain ⟨n, rfl⟩ := Int.eq_ofNat_of_zero_le hv0
  obtain ⟨_, _, a1, a2, a3⟩ := place_facts f h0 h1
  refine (refWith_core L hL f (8 * atOf f) (8 * sizeOfF f) n w (by omega) (by omega) (by omega) (first_at f h0 h1) (width_at f h0 h1)).mono fun e w' h => ⟨?_, h.2.2⟩
  exact h.2.1 (fun h => hvw (by exact_mod_cast h))
end Go.Proofs.YtplnlmkmaapbaaaDoor
