import Derived.Test.YtplnlmkmaapbaaaDoorSpSl
namespace Go.Proofs.YtplnlmkmaapbaaaDoor
open Go Go.RowKit

/-- Is this a range? -/
def isR (l h : Int) : Bool := decide (0 ≤ l) && decide (l ≤ h) && decide (h ≤ 65535)
theorem isR_iff (l h : Int) : isR l h = true ↔ 0 ≤ l ∧ l ≤ h ∧ h ≤ 65535 := by simp [isR, and_assoc]
/-- The pieces of a range, none where there is no range. -/
def ran (l h : Int) : List (Nat × Nat) := if isR l h then rng h.toNat l.toNat else []
def ranE (l h : Int) : Int := if isR l h then 0 else 10

theorem rng_le (h n : Nat) : (rng h n).length ≤ h + 1 - n := by
  refine rng_induct h (fun n => (rng h n).length ≤ h + 1 - n) (fun n hn => by rw [rng_nil hn]; exact Nat.zero_le _) (fun n hn ih => ?_) n
  rw [rng_cons hn, List.length_cons]
  have := rng_next hn
  omega

set_option maxHeartbeats 1000000 in
theorem range_ok (l h : Nat) (hl : l ≤ h) (hh : h ≤ 65535) (w : World) :
    Calls Tryd.prog 19 #[.int .i64 (l : Int), .int .i64 (h : Int)] w fun e w' => ∃ u, e = .returned (.tuple #[u, .int .i64 0]) ∧ w'.ownsRow w.heap.size 50 2 u (rng h l).length (pcells (rng h l)) ∧ Below w.heap.size w w' := by
  have GR : Hid (∀ n : Nat, n ≤ h → ∀ W, Calls Tryd.prog 29 #[.int .i64 (n : Int), .int .i64 (h : Int)] W fun e w' => e = .returned (.agg (pv (n : Int) ((gr n h : Nat) : Int))) ∧ Below W.heap.size W w') := fun n hn W => greatest_any n h hn hh W
  have HL : Hid ((rng h l).length ≤ 65536) := Nat.le_trans (rng_le h l) (by omega)
  have q0 : ¬ h < l := by omega
  have q1 : ¬ (65535 : Int) < (h : Int) := by omega
  have q2 : ¬ (l : Int) < 0 := by omega
  go_enter Tryd.func19, Tryd.ntmps19
  go_wp2_with fail
  clear q0 q1 q2
  go_loopw [0, 6] (fun i out wr => ∃ n : Nat, n ≤ h + 1 ∧ i = .int .i64 (n : Int) ∧ ∃ P : List (Nat × Nat), P ++ rng h n = rng h l ∧ wr.ownsRow w.heap.size 50 2 out P.length (pcells P) ∧ Below w.heap.size w wr) (fun i _ _ => h + 1 - (intOf i).toNat)
  case atStart => exact ⟨l, by omega, rfl, [], rfl, World.ownsRow_nil _ _ _ _, Below.refl _ _⟩
  case round =>
    obtain ⟨n, hn, rfl, P, hP, hown, hb⟩ := hrel
    have HP : Hid (P ++ rng h n = rng h l) := hP
    have hPl : P.length ≤ 65536 := by
      have := HL.out
      rw [← hP, List.length_append] at this
      omega
    have OWN : Hid (wr.ownsRow w.heap.size 50 2 u6 P.length (pcells P)) := hown
    clear hP hown
    by_cases hlt : n ≤ h
    · have D : Hid (∀ W, Calls Tryd.prog 29 #[.int .i64 (n : Int), .int .i64 (h : Int)] W fun e w' => e = .returned (.agg (pv (n : Int) ((gr n h : Nat) : Int))) ∧ Below W.heap.size W w') := GR.out n hlt
      have hg16 := (gr_is n h hlt).1
      have HC : Hid (rng h n = (n, gr n h) :: rng h (n + sz (gr n h))) := rng_cons hlt
      have hnx := rng_next hlt
      obtain ⟨b, hbb⟩ : ∃ b, b = gr n h := ⟨_, rfl⟩
      rw [← hbb] at D hg16 HC hnx
      have D2 : Hid (∀ W, Calls Tryd.prog 30 #[.agg (pv (n : Int) (b : Int))] W fun e w' => e = .returned (.int .i64 ((sz b : Nat) : Int)) ∧ Below W.heap.size W w') := fun W => size_any (n : Int) b hg16 W
      obtain ⟨s, hs⟩ : ∃ s, s = sz b := ⟨_, rfl⟩
      rw [← hs] at D2 HC hnx
      clear hbb hs
      go_wp2_with fail
      refine (D.out _).mono ?_
      rintro e w1 ⟨rfl, hb1⟩
      have B1 := hb.trans (hb1.mono hb.size)
      have OWN1 : Hid (w1.ownsRow w.heap.size 50 2 u6 P.length (pcells P)) := own_below OWN.out hb1
      clear OWN hb hb1
      go_wp2_with (first
        | (refine wl_loadP rfl _ rfl w1.heap.size 0 rfl _ _ _ (n : Int) (b : Int) (heap_new _ _ _ rfl) (own_piece _ _) ?_)
        | (refine wl_buildP rfl _ rfl (n : Int) (b : Int) rfl ?_)
        | (at_builtin; refine of_stopped ?_))
      unfold Stopped
      have a0 := heap_past (w1.alloc (.cells (pv (n : Int) (b : Int)) 50)) (.cells (pv (n : Int) (b : Int)) 50) _ _ (heap_new w1 (.cells (pv (n : Int) (b : Int)) 50) _ rfl)
      have a1 := heap_new (w1.alloc (.cells (pv (n : Int) (b : Int)) 50)) (.cells (pv (n : Int) (b : Int)) 50) (w1.heap.size + 1) (by simp)
      have OWN3 : Hid (((w1.alloc (.cells (pv (n : Int) (b : Int)) 50)).alloc (.cells (pv (n : Int) (b : Int)) 50)).ownsRow w.heap.size 50 2 u6 P.length (pcells P)) := (OWN1.out.alloc _).alloc _
      have B3 := (B1.alloc B1.size (.cells (pv (n : Int) (b : Int)) 50)).alloc (by simp; have := B1.size; omega) (.cells (pv (n : Int) (b : Int)) 50)
      refine wl_appendP rfl _ _ rfl w.heap.size _ P (n, b) rfl OWN3.out _ 1 rfl a1 (by omega) (by simp; have := B1.size; omega) ?_
      intro v' w2 hown2 hgr
      have B4 : Below w.heap.size w w2 := B3.grown hgr (by simp; have := B1.size; omega) (fun q hq => (OWN3.out.lt q hq).1)
      have g2 : w2.heap[w1.heap.size]? = some (.cells (pv (n : Int) (b : Int)) 50 (0, 0)) := by
        rw [hgr.block w1.heap.size (by simp; omega) (fun hq => absurd (OWN1.out.lt w1.heap.size hq.symm).2 (by omega))]
        exact a0
      obtain ⟨o2, cap2, rfl⟩ := own_slice hown2
      obtain ⟨v2, hv2⟩ : ∃ v2, v2 = Value.slice o2 (P ++ [(n, b)]).length cap2 := ⟨_, rfl⟩
      rw [← hv2] at hown2 ⊢
      have OWN4 : Hid (w2.ownsRow w.heap.size 50 2 v2 (P ++ [(n, b)]).length (pcells (P ++ [(n, b)]))) := hown2
      simp only [Act.put, List.setIfInBounds_toArray, List.set_cons_succ, List.set_cons_zero]
      clear hown2 hgr a0 a1 OWN3 B3 B1 OWN1 hv2
      go_wp2_with (first
        | (refine wl_loadP rfl _ rfl w1.heap.size 0 rfl _ _ _ (n : Int) (b : Int) g2 (own_piece _ _) ?_))
      refine (D2.out _).mono ?_
      rintro e w3 ⟨rfl, hb3⟩
      go_wp2_with fail
      go_roundw
      case rel => exact ⟨n + s, by omega, by go_num, P ++ [(n, b)], by rw [List.append_assoc, List.singleton_append, ← HC.out]; exact HP.out, own_below OWN4.out hb3, B4.trans (hb3.mono B4.size)⟩
      case measure => simp [intOf]; omega
    · have HE : Hid (rng h n = []) := rng_nil (by omega)
      go_wp2_with fail
      go_ret2
      refine ⟨u6, rfl, ?_, hb⟩
      have := HP.out
      rw [HE.out, List.append_nil] at this
      rw [← this]; exact OWN.out

set_option maxHeartbeats 400000 in
theorem range_no (l h : Int) (hl : ¬ (0 ≤ l ∧ l ≤ h ∧ h ≤ 65535)) (w : World) :
    Calls Tryd.prog 19 #[.int .i64 l, .int .i64 h] w fun e w' => e = .returned (.tuple #[.slice none 0 0, .int .i64 10]) ∧ w' = w := by
  by_cases h0 : l < 0
  · go_enter Tryd.func19, Tryd.ntmps19
    go_wp2_with fail
    go_ret2
    exact ⟨rfl, rfl⟩
  · by_cases h1 : l > h
    · go_enter Tryd.func19, Tryd.ntmps19
      go_wp2_with fail
      go_ret2
      exact ⟨rfl, rfl⟩
    · have h2 : h > 65535 := by omega
      clear hl
      go_enter Tryd.func19, Tryd.ntmps19
      go_wp2_with fail
      go_ret2
      exact ⟨rfl, rfl⟩

theorem range_any (l h : Int) (w : World) :
    Calls Tryd.prog 19 #[.int .i64 l, .int .i64 h] w fun e w' => ∃ u, e = .returned (.tuple #[u, .int .i64 (ranE l h)]) ∧ w'.ownsRow w.heap.size 50 2 u (ran l h).length (pcells (ran l h)) ∧ Below w.heap.size w w' := by
  unfold ran ranE
  by_cases c : isR l h = true
  · simp only [c, if_true]
    have := (isR_iff l h).1 c
    obtain ⟨l', rfl⟩ := Int.eq_ofNat_of_zero_le this.1
    obtain ⟨h', rfl⟩ := Int.eq_ofNat_of_zero_le (Int.le_trans this.1 this.2.1)
    exact range_ok l' h' (by omega) (by omega) w
  · have c' : isR l h = false := by simpa using c
    simp only [c', Bool.false_eq_true, if_false]
    refine (range_no l h (fun hc => c ((isR_iff l h).2 hc)) w).mono ?_
    rintro e w' ⟨rfl, rfl⟩
    exact ⟨_, rfl, World.ownsRow_nil _ _ _ _, Below.refl _ _⟩
end Go.Proofs.YtplnlmkmaapbaaaDoor
