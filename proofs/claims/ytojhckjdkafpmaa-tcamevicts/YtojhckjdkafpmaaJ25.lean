import Derived.Test.YtojhckjdkafpmaaJ24
import Derived.Test.YtojhckjdkafpmaaJ12
import Derived.Test.YtojhckjdkafpmaaJ11
import Derived.Test.YtojhckjdkafpmaaJ20
import Derived.Test.YtojhckjdkafpmaaJ4
namespace Go.Proofs.Ytojhckjdkafpmaa
open Go Go.RowKit
set_option maxRecDepth 20000

/-- A number that is not within its bound: no table is made. -/
theorem new_no (c a p i h : Int) (hr : ¬ OkR c a p i h) (w : World) :
    Calls Try.prog 25 #[.int .i64 c, .int .i64 a, .int .i64 p, .int .i64 i, .int .i64 h] w fun e w' => e = .returned (.tuple #[.pointer none, .int .i64 1]) ∧ w' = w := by
  have WB : Hid (∀ n top b W, decide (0 ≤ n ∧ n ≤ top) = b → Calls Try.prog 39 #[.int .i64 n, .int .i64 top] W fun e w' => e = .returned (.bool b) ∧ w' = W) := by
    intro n top b W hn
    have h9 := within_any n top W
    rw [hn] at h9
    exact h9
  have h0 : (¬ (0 ≤ c ∧ c ≤ 2048)) ∨ ((0 ≤ c ∧ c ≤ 2048) ∧ ¬ (0 ≤ a ∧ a ≤ 2048)) ∨ ((0 ≤ c ∧ c ≤ 2048) ∧ (0 ≤ a ∧ a ≤ 2048) ∧ ¬ (0 ≤ p ∧ p ≤ 2048)) ∨ ((0 ≤ c ∧ c ≤ 2048) ∧ (0 ≤ a ∧ a ≤ 2048) ∧ (0 ≤ p ∧ p ≤ 2048) ∧ ¬ (0 ≤ i ∧ i ≤ 1099511627776)) ∨ ((0 ≤ c ∧ c ≤ 2048) ∧ (0 ≤ a ∧ a ≤ 2048) ∧ (0 ≤ p ∧ p ≤ 2048) ∧ (0 ≤ i ∧ i ≤ 1099511627776) ∧ ¬ (0 ≤ h ∧ h ≤ 1099511627776)) := by unfold OkR at hr; omega
  have hd : (Hid (decide (0 ≤ c ∧ c ≤ 2048) = false)) ∨ (Hid (decide (0 ≤ c ∧ c ≤ 2048) = true) ∧ Hid (decide (0 ≤ a ∧ a ≤ 2048) = false)) ∨ (Hid (decide (0 ≤ c ∧ c ≤ 2048) = true) ∧ Hid (decide (0 ≤ a ∧ a ≤ 2048) = true) ∧ Hid (decide (0 ≤ p ∧ p ≤ 2048) = false)) ∨ (Hid (decide (0 ≤ c ∧ c ≤ 2048) = true) ∧ Hid (decide (0 ≤ a ∧ a ≤ 2048) = true) ∧ Hid (decide (0 ≤ p ∧ p ≤ 2048) = true) ∧ Hid (decide (0 ≤ i ∧ i ≤ 1099511627776) = false)) ∨ (Hid (decide (0 ≤ c ∧ c ≤ 2048) = true) ∧ Hid (decide (0 ≤ a ∧ a ≤ 2048) = true) ∧ Hid (decide (0 ≤ p ∧ p ≤ 2048) = true) ∧ Hid (decide (0 ≤ i ∧ i ≤ 1099511627776) = true) ∧ Hid (decide (0 ≤ h ∧ h ≤ 1099511627776) = false)) := by
    rcases h0 with h1 | ⟨h1, h2⟩ | ⟨h1, h2, h3⟩ | ⟨h1, h2, h3, h4⟩ | ⟨h1, h2, h3, h4, h5⟩
    · exact .inl (decide_eq_false h1)
    · exact .inr (.inl (⟨decide_eq_true h1, decide_eq_false h2⟩))
    · exact .inr (.inr (.inl (⟨decide_eq_true h1, decide_eq_true h2, decide_eq_false h3⟩)))
    · exact .inr (.inr (.inr (.inl (⟨decide_eq_true h1, decide_eq_true h2, decide_eq_true h3, decide_eq_false h4⟩))))
    · exact .inr (.inr (.inr (.inr ((⟨decide_eq_true h1, decide_eq_true h2, decide_eq_true h3, decide_eq_true h4, decide_eq_false h5⟩)))))
  clear h0 hr
  rcases hd with F1 | ⟨F1, F2⟩ | ⟨F1, F2, F3⟩ | ⟨F1, F2, F3, F4⟩ | ⟨F1, F2, F3, F4, F5⟩
  all_goals
    go_enter Try.func25, Try.ntmps25
    go_wp2_with (go_at_call 39; refine (WB.out _ _ _ _ (by first | exact F1.out | exact F2.out | exact F3.out | exact F4.out | exact F5.out)).mono ?_; rintro r w2 ⟨rfl, hw2⟩; rw [hw2]; clear hw2 w2)
    go_ret2
    exact ⟨rfl, rfl⟩
end Go.Proofs.Ytojhckjdkafpmaa
namespace Go.Proofs.Ytojhckjdkafpmaa
open Go Go.RowKit
set_option maxRecDepth 20000

set_option maxHeartbeats 8000000 in
theorem rnew_yes (c a p i h : Int) (hr : OkR c a p i h) (w : World) :
    Calls Try.prog 28 #[.int .i64 c, .int .i64 a, .int .i64 p, .int .i64 i, .int .i64 h] w fun e w' => (∃ r gr, e = .returned (.tuple #[.pointer (some ⟨r, 0, none⟩), .int .i64 0]) ∧ RTabV w.heap.size w' r gr (rmOf c a p i h) [] (.slice none 0 0)) ∧ Below w.heap.size w w' := by
  obtain ⟨⟨h1, h2⟩, ⟨h3, h4⟩, ⟨h5, h6⟩, ⟨h7, h8⟩, ⟨h9, h10⟩⟩ := hr
  have HZ : Hid (∀ k : Nat, 1 ≤ k → k < 4 → ∃ z : Int, ¬ z < 0 ∧ ¬ z > 2048 ∧ (#[.int .i64 0, .int .i64 c, .int .i64 a, .int .i64 p] : Array Value)[k]? = some (.int .i64 z)) := by
    intro k hk hk'
    obtain rfl | rfl | rfl : k = 1 ∨ k = 2 ∨ k = 3 := by omega
    · exact ⟨c, by omega, by omega, rfl⟩
    · exact ⟨a, by omega, by omega, rfl⟩
    · exact ⟨p, by omega, by omega, rfl⟩
  have FI : Hid (∀ w', w'.heap[w.heap.size]? = some (.cells #[.int .i64 0, .int .i64 c, .int .i64 a, .int .i64 p] 3 (0, 0)) → w'.heap[w.heap.size + 1]? = some (.cells (rtabV (.slice none 0 0) (.slice (some ⟨w.heap.size, 0, none⟩) 4 4) ⟨0, 0, 0, i, h⟩) 89 (0, 0)) → RTabV w.heap.size w' (w.heap.size + 1) w.heap.size (rmOf c a p i h) [] (.slice none 0 0)) := by
    intro w' e1 e2
    refine ⟨e2, ?_, SlotsAt.nil _ _, by omega, Nat.le_refl _⟩
    unfold roomV rmOf
    simp only [Int.toNat_of_nonneg h1, Int.toNat_of_nonneg h3, Int.toNat_of_nonneg h5]
    exact e1
  have h7' : ¬ i < 0 := by omega
  have h8' : ¬ i > 1099511627776 := by omega
  have h9' : ¬ h < 0 := by omega
  have h10' : ¬ h > 1099511627776 := by omega
  clear h1 h2 h3 h4 h5 h6
  go_enter Try.func28, Try.ntmps28
  go_wp2_with fail
  go_loopw [13] (fun i wr => ∃ k : Nat, 1 ≤ k ∧ k ≤ 4 ∧ i = .int .i64 (k : Int) ∧ Hid (wr.heap[w.heap.size]? = some (.cells #[.int .i64 0, .int .i64 c, .int .i64 a, .int .i64 p] 3 (0, 0))) ∧ Hid (wr.heap.size = w.heap.size + 1) ∧ Hid (Below w.heap.size w wr)) (fun i _ => 4 - (intOf i).toNat)
  case atStart => exact ⟨1, by omega, by omega, rfl, heap_new _ _ _ rfl, (by show _ = _; simp), (Below.refl _ _).alloc (Nat.le_refl _) _⟩
  case round =>
    obtain ⟨k, hk, hk4, rfl, HA, HS, HB⟩ := hrel
    by_cases hlt : k < 4
    · have hlt' : (k : Int) < 4 := by omega
      obtain ⟨z, hz1, hz2, hz3⟩ := HZ.out k hk hlt
      have hc : wr.cell? ⟨w.heap.size, k, none⟩ = some (.int .i64 z) := by rw [cell_of_row _ _ _ _ _ _ HA.out]; exact hz3
      clear hz3
      go_wp2_with fail
      go_roundw
      case rel => exact ⟨k + 1, by omega, by omega, by go_num, HA, HS, HB⟩
      case measure => simp [intOf]; omega
    · have hlt' : ¬ (k : Int) < 4 := by omega
      go_wp2_with fail
      go_ret2
      refine ⟨⟨wr.heap.size, rfl, w.heap.size, ?_⟩, HB.out.alloc HB.out.size _⟩
      have hq := FI.out _ (heap_past _ _ _ _ HA.out) (heap_new _ _ _ HS.out.symm)
      rw [← HS.out] at hq
      exact hq
set_option maxHeartbeats 8000000 in
theorem rnew_no (c a p i h : Int) (hr : ¬ OkR c a p i h) (w : World) :
    Calls Try.prog 28 #[.int .i64 c, .int .i64 a, .int .i64 p, .int .i64 i, .int .i64 h] w fun e w' => e = .returned (.tuple #[.pointer none, .int .i64 1]) ∧ Below w.heap.size w w' := by
  have HZ : Hid (∀ k : Nat, 1 ≤ k → k < 4 → ∃ z : Int, ((k = 1 → z = c) ∧ (k = 2 → z = a) ∧ (k = 3 → z = p)) ∧ (#[.int .i64 0, .int .i64 c, .int .i64 a, .int .i64 p] : Array Value)[k]? = some (.int .i64 z)) := by
    intro k hk hk'
    obtain rfl | rfl | rfl : k = 1 ∨ k = 2 ∨ k = 3 := by omega
    · exact ⟨c, by omega, rfl⟩
    · exact ⟨a, by omega, rfl⟩
    · exact ⟨p, by omega, rfl⟩
  have HR : Hid (¬ OkR c a p i h) := hr
  clear hr
  go_enter Try.func28, Try.ntmps28
  go_wp2_with fail
  go_loopw [13] (fun i wr => ∃ k : Nat, 1 ≤ k ∧ k ≤ 4 ∧ i = .int .i64 (k : Int) ∧ Hid (wr.heap[w.heap.size]? = some (.cells #[.int .i64 0, .int .i64 c, .int .i64 a, .int .i64 p] 3 (0, 0))) ∧ Hid ((2 ≤ k → 0 ≤ c ∧ c ≤ 2048) ∧ (3 ≤ k → 0 ≤ a ∧ a ≤ 2048) ∧ (4 ≤ k → 0 ≤ p ∧ p ≤ 2048)) ∧ Hid (Below w.heap.size w wr)) (fun i _ => 4 - (intOf i).toNat)
  case atStart => exact ⟨1, by omega, by omega, rfl, heap_new _ _ _ rfl, (by show _ ∧ _; omega), (Below.refl _ _).alloc (Nat.le_refl _) _⟩
  case round =>
    obtain ⟨k, hk, hk4, rfl, HA, HS, HB⟩ := hrel
    by_cases hlt : k < 4
    · have hlt' : (k : Int) < 4 := by omega
      obtain ⟨z, hz0, hz3⟩ := HZ.out k hk hlt
      have H0 : Hid _ := hz0
      have hc : wr.cell? ⟨w.heap.size, k, none⟩ = some (.int .i64 z) := by rw [cell_of_row _ _ _ _ _ _ HA.out]; exact hz3
      clear hz3 hz0
      by_cases hz1 : z < 0
      · go_wp2_with fail
        go_ret2
        exact ⟨rfl, HB.out⟩
      · by_cases hz2 : z > 2048
        · go_wp2_with fail
          go_ret2
          exact ⟨rfl, HB.out⟩
        · have HS' : Hid ((2 ≤ k + 1 → 0 ≤ c ∧ c ≤ 2048) ∧ (3 ≤ k + 1 → 0 ≤ a ∧ a ≤ 2048) ∧ (4 ≤ k + 1 → 0 ≤ p ∧ p ≤ 2048)) := by
            show _ ∧ _
            have h1 := HS.out
            have h2 := H0.out
            obtain rfl | rfl | rfl : k = 1 ∨ k = 2 ∨ k = 3 := by omega
            · have := h2.1 rfl; omega
            · have := h2.2.1 rfl; omega
            · have := h2.2.2 rfl; omega
          go_wp2_with fail
          go_roundw
          case rel => exact ⟨k + 1, by omega, by omega, by go_num, HA, HS', HB⟩
          case measure => simp [intOf]; omega
    · have hlt' : ¬ (k : Int) < 4 := by omega
      have HQ : Hid (¬ ((0 ≤ i ∧ i ≤ 1099511627776) ∧ (0 ≤ h ∧ h ≤ 1099511627776))) := by
        show ¬ _
        intro hq
        have h1 := HS.out
        exact HR.out ⟨h1.1 (by omega), h1.2.1 (by omega), h1.2.2 (by omega), hq.1, hq.2⟩
      by_cases q1 : i < 0
      · go_wp2_with fail
        go_ret2
        exact ⟨rfl, HB.out⟩
      · by_cases q2 : h < 0
        · go_wp2_with fail
          go_ret2
          exact ⟨rfl, HB.out⟩
        · by_cases q3 : i > 1099511627776
          · go_wp2_with fail
            go_ret2
            exact ⟨rfl, HB.out⟩
          · have q4 : h > 1099511627776 := by have := HQ.out; omega
            go_wp2_with fail
            go_ret2
            exact ⟨rfl, HB.out⟩
end Go.Proofs.Ytojhckjdkafpmaa
namespace Go.Proofs.Ytojhckjdkafpmaa
open Go Go.RowKit
set_option maxRecDepth 20000

def roomA (c a p i h : Int) : Array Value := #[.int .i64 c, .int .i64 a, .int .i64 p, .int .i64 i, .int .i64 h]
theorem retTw {fn : Func} {R : Ending → World → Prop} {a : Act} {w : World} {p u : Tmp} (hr : fn.results = #[.cell p 29, .tmp u]) (hd : a.defers = []) (g : Nat) (hp : a.tmps.getD p undef = .pointer (some ⟨g, 0, none⟩)) (x y : Value)
    (hg : w.heap[g]? = some (.cells #[x, y] 29 (0, 0))) (v : Value) (hu : a.tmps.getD u undef = v) (h : R (.returned (.tuple #[.agg #[x, y], v])) w) : bodyPost Try.prog fn R .ret a w := by
  refine bodyPost_ret (v := .tuple #[.agg #[x, y], v]) ?_ hd h
  rw [results_cell_tmp hr, hp, hu]
  simp [asAddr, run_loadVar_row w g 29 29 #[x, y] (0, 0) _ hg Try.underlying29 rfl rfl]
set_option maxHeartbeats 8000000 in
theorem open_no (c a p i h : Int) (hr : ¬ OkR c a p i h) (w : World) :
    Calls Try.prog 10 #[.agg (roomA c a p i h)] w fun e w' => e = .returned (.tuple #[.agg #[.pointer none, .pointer none], .bool true]) ∧ Below w.heap.size w w' := by
  have NW : Hid (∀ W, Calls Try.prog 25 #[.int .i64 c, .int .i64 a, .int .i64 p, .int .i64 i, .int .i64 h] W fun e w' => e = .returned (.tuple #[.pointer none, .int .i64 1]) ∧ w' = W) := by intro W; exact new_no c a p i h hr W
  have RN : Hid (∀ W, Calls Try.prog 28 #[.int .i64 c, .int .i64 a, .int .i64 p, .int .i64 i, .int .i64 h] W fun e w' => e = .returned (.tuple #[.pointer none, .int .i64 1]) ∧ Below W.heap.size W w') := by intro W; exact rnew_no c a p i h hr W
  clear hr
  unfold roomA
  go_enter Try.func10, Try.ntmps10
  go_wp2_with (first | (go_at_call 25; refine (NW.out _).mono ?_; rintro r w2 ⟨rfl, hw2⟩; rw [hw2]; clear hw2 w2; refine of_stopS ?_))
  unfold StopS
  obtain ⟨w2, hw2⟩ : ∃ w2, w2 = (w.alloc (.cells #[.int .i64 c, .int .i64 a, .int .i64 p, .int .i64 i, .int .i64 h] 23)).alloc (.cells #[.pointer none, .pointer none] 29) := ⟨_, rfl⟩
  have A2 : Hid (w2.heap[w.heap.size]? = some (.cells #[.int .i64 c, .int .i64 a, .int .i64 p, .int .i64 i, .int .i64 h] 23 (0, 0))) := by show _ = _; rw [hw2]; exact heap_past _ _ _ _ (heap_new _ _ _ rfl)
  have T2 : Hid (w2.heap[w.heap.size + 1]? = some (.cells #[.pointer none, .pointer none] 29 (0, 0))) := by show _ = _; rw [hw2]; exact heap_new _ _ _ (by simp)
  have B2 : Hid (Below w.heap.size w w2) := by show Below _ _ _; rw [hw2]; exact ((Below.refl _ _).alloc (Nat.le_refl _) _).alloc (by simp) _
  rw [← hw2]
  clear hw2
  have r0 : w2.cell? ⟨w.heap.size, 0, none⟩ = some (.int .i64 c) := by rw [cell_of_row _ _ _ _ _ _ A2.out]; rfl
  have r1 : w2.cell? ⟨w.heap.size, 1, none⟩ = some (.int .i64 a) := by rw [cell_of_row _ _ _ _ _ _ A2.out]; rfl
  have r2 : w2.cell? ⟨w.heap.size, 2, none⟩ = some (.int .i64 p) := by rw [cell_of_row _ _ _ _ _ _ A2.out]; rfl
  have r3 : w2.cell? ⟨w.heap.size, 3, none⟩ = some (.int .i64 i) := by rw [cell_of_row _ _ _ _ _ _ A2.out]; rfl
  have r4 : w2.cell? ⟨w.heap.size, 4, none⟩ = some (.int .i64 h) := by rw [cell_of_row _ _ _ _ _ _ A2.out]; rfl
  go_wp2_with (first | (go_at_call 28; refine (RN.out _).mono ?_; rintro r w3 ⟨rfl, hb3⟩; refine of_stopS ?_))
  unfold StopS
  have T3 : Hid (w3.heap[w.heap.size + 1]? = some (.cells #[.pointer none, .pointer none] 29 (0, 0))) := (hb3.block _ (Array.getElem?_eq_some_iff.1 T2.out).1).trans T2.out
  have B3 : Hid (Below w.heap.size w w3) := below_step B2.out B2.out.size hb3
  clear hb3 r0 r1 r2 r3 r4 A2 T2 B2
  have t0 : w3.cell? ⟨w.heap.size + 1, 0, none⟩ = some (.pointer none) := by rw [cell_of_row _ _ _ _ _ _ T3.out]; rfl
  have t1 : w3.cell? ⟨w.heap.size + 1, 1, none⟩ = some (.pointer none) := by rw [cell_of_row _ _ _ _ _ _ T3.out]; rfl
  have tf : ∀ k, w3.frozen? ⟨w.heap.size + 1, k, none⟩ = false := fun k => by simp [World.frozen?, T3.out]
  have tf0 := tf 0
  have tf1 := tf 1
  go_wp2_with fail
  obtain ⟨w4, hw4⟩ : ∃ w4, w4 = (w3.setCell ⟨w.heap.size + 1, 0, none⟩ (.pointer none)).setCell ⟨w.heap.size + 1, 1, none⟩ (.pointer none) := ⟨_, rfl⟩
  have T4 : Hid (w4.heap[w.heap.size + 1]? = some (.cells #[.pointer none, .pointer none] 29 (0, 0))) := by show _ = _; rw [hw4]; exact heap_setCell_same _ _ 1 _ _ _ (heap_setCell_same _ _ 0 _ _ _ T3.out)
  have B4 : Hid (Below w.heap.size w w4) := by show Below _ _ _; rw [hw4]; exact (B3.out.setCell (Nat.le_succ _) _).setCell (Nat.le_succ _) _
  rw [← hw4]
  clear hw4 t0 t1 tf tf0 tf1
  exact retTw (p := 2) (u := 3) rfl rfl (w.heap.size + 1) rfl _ _ T4.out _ rfl ⟨rfl, B4.out⟩
/-- A table of the program's and one of the reference's, apart. -/
structure TwoT (B : Nat) (w : World) (g r gr : Nat) (R : Rm) (S : Bks) (L : List Slt) (v1 v2 v3 vl : Value) : Prop where
  t : TabV B w g R S v1 v2 v3
  rt : RTabV B w r gr R L vl
  d : ∀ k, footT g v1 v2 v3 k → footR r gr vl k → False
set_option maxHeartbeats 8000000 in
theorem open_yes (c a p i h : Int) (hr : OkR c a p i h) (w : World) :
    Calls Try.prog 10 #[.agg (roomA c a p i h)] w fun e w' => ∃ g r gr, e = .returned (.tuple #[.agg #[.pointer (some ⟨g, 0, none⟩), .pointer (some ⟨r, 0, none⟩)], .bool true]) ∧ TwoT w.heap.size w' g r gr (rmOf c a p i h) ⟨[], [], []⟩ [] (.slice none 0 0) (.slice none 0 0) (.slice none 0 0) (.slice none 0 0) ∧ Below w.heap.size w w' := by
  have NW : Hid (∀ W, Calls Try.prog 25 #[.int .i64 c, .int .i64 a, .int .i64 p, .int .i64 i, .int .i64 h] W fun e w' => (∃ g, e = .returned (.tuple #[.pointer (some ⟨g, 0, none⟩), .int .i64 0]) ∧ TabV W.heap.size w' g (rmOf c a p i h) ⟨[], [], []⟩ (.slice none 0 0) (.slice none 0 0) (.slice none 0 0)) ∧ Below W.heap.size W w') := by intro W; exact new_yes c a p i h hr W
  have RN : Hid (∀ W, Calls Try.prog 28 #[.int .i64 c, .int .i64 a, .int .i64 p, .int .i64 i, .int .i64 h] W fun e w' => (∃ r gr, e = .returned (.tuple #[.pointer (some ⟨r, 0, none⟩), .int .i64 0]) ∧ RTabV W.heap.size w' r gr (rmOf c a p i h) [] (.slice none 0 0)) ∧ Below W.heap.size W w') := by intro W; exact rnew_yes c a p i h hr W
  clear hr
  unfold roomA
  go_enter Try.func10, Try.ntmps10
  obtain ⟨w0, hw0⟩ : ∃ w0, w0 = (w.alloc (.cells #[.int .i64 c, .int .i64 a, .int .i64 p, .int .i64 i, .int .i64 h] 23)).alloc (.cells #[.pointer none, .pointer none] 29) := ⟨_, rfl⟩
  have A0 : Hid (w0.heap[w.heap.size]? = some (.cells #[.int .i64 c, .int .i64 a, .int .i64 p, .int .i64 i, .int .i64 h] 23 (0, 0))) := by show _ = _; rw [hw0]; exact heap_past _ _ _ _ (heap_new _ _ _ rfl)
  have T0 : Hid (w0.heap[w.heap.size + 1]? = some (.cells #[.pointer none, .pointer none] 29 (0, 0))) := by show _ = _; rw [hw0]; exact heap_new _ _ _ (by simp)
  have B0 : Hid (Below w.heap.size w w0) := by show Below _ _ _; rw [hw0]; exact ((Below.refl _ _).alloc (Nat.le_refl _) _).alloc (by simp) _
  have W0 : Hid (w0 = _) := hw0
  clear hw0
  go_wp2_with (first | (go_at_call 25; rw [← W0.out]; refine (NW.out _).mono ?_; rintro r w2 ⟨⟨g, rfl, hT2⟩, hb2⟩; refine of_stopS ?_))
  unfold StopS
  have A2 : Hid (w2.heap[w.heap.size]? = some (.cells #[.int .i64 c, .int .i64 a, .int .i64 p, .int .i64 i, .int .i64 h] 23 (0, 0))) := (hb2.block _ (Array.getElem?_eq_some_iff.1 A0.out).1).trans A0.out
  have T2 : Hid (w2.heap[w.heap.size + 1]? = some (.cells #[.pointer none, .pointer none] 29 (0, 0))) := (hb2.block _ (Array.getElem?_eq_some_iff.1 T0.out).1).trans T0.out
  have B2 : Hid (Below w.heap.size w w2) := below_step B0.out B0.out.size hb2
  have N0 : Hid (w.heap.size + 1 < w0.heap.size) := (Array.getElem?_eq_some_iff.1 T0.out).1
  have V2 : Hid (TabV w0.heap.size w2 g (rmOf c a p i h) ⟨[], [], []⟩ (.slice none 0 0) (.slice none 0 0) (.slice none 0 0)) := hT2
  have S2 : Hid (w0.heap.size ≤ w2.heap.size) := hb2.size
  clear hT2 hb2 A0 T0 B0 W0
  have r0 : w2.cell? ⟨w.heap.size, 0, none⟩ = some (.int .i64 c) := by rw [cell_of_row _ _ _ _ _ _ A2.out]; rfl
  have r1 : w2.cell? ⟨w.heap.size, 1, none⟩ = some (.int .i64 a) := by rw [cell_of_row _ _ _ _ _ _ A2.out]; rfl
  have r2 : w2.cell? ⟨w.heap.size, 2, none⟩ = some (.int .i64 p) := by rw [cell_of_row _ _ _ _ _ _ A2.out]; rfl
  have r3 : w2.cell? ⟨w.heap.size, 3, none⟩ = some (.int .i64 i) := by rw [cell_of_row _ _ _ _ _ _ A2.out]; rfl
  have r4 : w2.cell? ⟨w.heap.size, 4, none⟩ = some (.int .i64 h) := by rw [cell_of_row _ _ _ _ _ _ A2.out]; rfl
  go_wp2_with (first | (go_at_call 28; refine (RN.out _).mono ?_; rintro r' w3 ⟨⟨r, gr, rfl, hR3⟩, hb3⟩; refine of_stopS ?_))
  unfold StopS
  have T3 : Hid (w3.heap[w.heap.size + 1]? = some (.cells #[.pointer none, .pointer none] 29 (0, 0))) := (hb3.block _ (Array.getElem?_eq_some_iff.1 T2.out).1).trans T2.out
  have B3 : Hid (Below w.heap.size w w3) := below_step B2.out B2.out.size hb3
  have V3 : Hid (TabV w0.heap.size w3 g (rmOf c a p i h) ⟨[], [], []⟩ (.slice none 0 0) (.slice none 0 0) (.slice none 0 0)) := V2.out.below hb3
  have R3 : Hid (RTabV w2.heap.size w3 r gr (rmOf c a p i h) [] (.slice none 0 0)) := hR3
  have F3 : Hid (∀ k, footT g (.slice none 0 0) (.slice none 0 0) (.slice none 0 0) k → k < w2.heap.size) := by intro k hk; exact (V2.out.foot_in k hk).2
  clear hb3 hR3 r0 r1 r2 r3 r4 A2 T2 B2 V2
  have t0 : w3.cell? ⟨w.heap.size + 1, 0, none⟩ = some (.pointer none) := by rw [cell_of_row _ _ _ _ _ _ T3.out]; rfl
  have t1 : w3.cell? ⟨w.heap.size + 1, 1, none⟩ = some (.pointer none) := by rw [cell_of_row _ _ _ _ _ _ T3.out]; rfl
  have tf : ∀ k, w3.frozen? ⟨w.heap.size + 1, k, none⟩ = false := fun k => by simp [World.frozen?, T3.out]
  have tf0 := tf 0
  have tf1 := tf 1
  go_wp2_with fail
  obtain ⟨w4, hw4⟩ : ∃ w4, w4 = (w3.setCell ⟨w.heap.size + 1, 0, none⟩ (.pointer (some ⟨g, 0, none⟩))).setCell ⟨w.heap.size + 1, 1, none⟩ (.pointer (some ⟨r, 0, none⟩)) := ⟨_, rfl⟩
  have T4 : Hid (w4.heap[w.heap.size + 1]? = some (.cells #[.pointer (some ⟨g, 0, none⟩), .pointer (some ⟨r, 0, none⟩)] 29 (0, 0))) := by show _ = _; rw [hw4]; exact heap_setCell_same _ _ 1 _ _ _ (heap_setCell_same _ _ 0 _ _ _ T3.out)
  have B4 : Hid (Below w.heap.size w w4) := by show Below _ _ _; rw [hw4]; exact (B3.out.setCell (Nat.le_succ _) _).setCell (Nat.le_succ _) _
  have hK : Kept (isB (w.heap.size + 1)) w3 w4 := by
    rw [hw4]
    refine ⟨rfl, rfl, rfl, by simp [World.setCell], fun k _ e => ?_⟩
    rw [heap_setCell_other _ ⟨w.heap.size + 1, 1, none⟩ k _ e, heap_setCell_other _ ⟨w.heap.size + 1, 0, none⟩ k _ e]
  have hV : TabV w0.heap.size w4 g (rmOf c a p i h) ⟨[], [], []⟩ (.slice none 0 0) (.slice none 0 0) (.slice none 0 0) := V3.out.kept hK fun k hk e => by have h1 := (V3.out.foot_in k hk).1; have h2 := N0.out; unfold isB at e; omega
  have hR : RTabV w2.heap.size w4 r gr (rmOf c a p i h) [] (.slice none 0 0) := R3.out.kept hK fun k hk e => by have h1 := (R3.out.foot_in k hk).1; have h2 := N0.out; have h3 := S2.out; unfold isB at e; omega
  have TT : Hid (TwoT w.heap.size w4 g r gr (rmOf c a p i h) ⟨[], [], []⟩ [] (.slice none 0 0) (.slice none 0 0) (.slice none 0 0) (.slice none 0 0)) := by
    have h2 := N0.out
    have h3 := S2.out
    refine ⟨⟨hV.blk, SlotsAt.nil _ _, SlotsAt.nil _ _, SlotsAt.nil _ _, .inl rfl, .inl rfl, .inl rfl, by have := hV.hB; omega⟩, ⟨hR.blk, hR.room, SlotsAt.nil _ _, by have := hR.hB; omega, by have := hR.hR; omega⟩, fun k h4 h5 => ?_⟩
    have h6 := F3.out k h4
    have h7 := (hR.foot_in k h5).1
    omega
  rw [← hw4]
  clear hw4 t0 t1 tf tf0 tf1 hK hV hR
  exact retTw (p := 2) (u := 3) rfl rfl (w.heap.size + 1) rfl _ _ T4.out _ rfl ⟨g, r, gr, rfl, TT.out, B4.out⟩
end Go.Proofs.Ytojhckjdkafpmaa
namespace Go.Proofs.Ytojhckjdkafpmaa
open Go Go.RowKit
set_option maxRecDepth 20000

/-- A call in memory. -/
def actV (x : ActM) : Array Value := #[.int .i64 x.kind, .int .i64 x.now] ++ slotV x.slot ++ hv x.head
theorem actV_slot (x : ActM) (j : Nat) (hj : j < 36) : (actV x)[2 + j]? = (slotV x.slot)[j]? := by
  unfold actV
  rw [Array.getElem?_append_left (by simp only [Array.size_append, slotV_size]; simp; omega), Array.getElem?_append_right (by simp)]
  simp
theorem actV_lo (x : ActM) (j : Nat) (hj : j < 2) : (actV x)[j]? = #[Value.int .i64 x.kind, .int .i64 x.now][j]? := by
  unfold actV
  rw [Array.getElem?_append_left (by simp only [Array.size_append, slotV_size]; simp; omega), Array.getElem?_append_left (by simpa using hj)]
theorem actV_cube (x : ActM) (j : Nat) (hj : j < 26) : (actV x)[6 + j]? = (cv (pad x.slot.cube.1) (pad x.slot.cube.2))[j]? := by
  rw [show 6 + j = 2 + (4 + j) by omega, actV_slot x (4 + j) (by omega), slotV_cube x.slot j hj]
theorem actV_head (x : ActM) (j : Nat) : (actV x)[38 + j]? = (hv x.head)[j]? := by
  unfold actV
  rw [Array.getElem?_append_right (by simp only [Array.size_append, slotV_size]; simp)]
  simp only [Array.size_append, slotV_size]
  congr 1
  simp
/-- A header is loaded out of a row. -/
theorem hdr_load {w : World} {g off : Nat} {cur : Array Value} {t : TypeId} {fr : Nat × Nat} {H : List Int} (hH : H.length = 13) (hg : w.heap[g]? = some (.cells cur t fr)) (hc : ∀ j, cur[off + j]? = (hv H)[j]?) :
    (loadVar 34 ⟨g, off, none⟩).run Try.prog w = .ok (.agg (hv H)) w := by
  have hs : (hv H).size = 13 := by rw [hv_size, hH]
  have hl : (loadCells ⟨g, off, none⟩ (hv H).toList.length).run Try.prog w = .ok (hv H).toList.toArray w :=
    run_loadCells_list (P := Try.prog) w ⟨g, off, none⟩ (hv H).toList (fun j v hv' => by
      have hadd : (⟨g, off, none⟩ : Addr).add j = ⟨g, off + j, none⟩ := by unfold Addr.add; split <;> simp_all
      rw [hadd, cell_of_row w g (off + j) cur t fr hg, hc j]
      simpa using hv')
  have hz : ∀ w, (sizeOf 34).run Try.prog w = .ok 13 w := fun w => by kernel_rfl
  have ha : ∀ w, (isAgg 34).run Try.prog w = .ok true w := fun w => by kernel_rfl
  rw [Array.length_toList, hs, Array.toArray_toList] at hl
  simp [loadVar, Sem.run_bind, ha, hz, hl]
theorem wl_loadHw {ops : Array Oper} {rest : List Oper} {o : Oper} {a : Act} {w : World} {Q : Exit → Act → World → Prop} (hw : Region.wanted o (yielded ops a.tmps) = true) (x : Operand) (ho : o.op = .load 34 x)
    (g off : Nat) (hx : a.eval x = .pointer (some ⟨g, off, none⟩)) (H : List Int) (hl : (loadVar 34 ⟨g, off, none⟩).run Try.prog w = .ok (.agg (hv H)) w)
    (h : wpList Try.prog ops Q rest (a.put o.dst (.agg (hv H))) w) : wpList Try.prog ops Q (o :: rest) a w := by
  refine wpList_step fun K hK => ?_
  rw [if_pos hw]
  unfold Oper.wp execOp
  simp only [ho, hx, Instr.loadAt, Instr.sureAddr, Sem.run_bind, Sem.run_pure, Result.andThen_ok, hl]
  exact hK _ _ h
/-- What is read of a call. -/
structure ActF (w : World) (p : Nat) (x : ActM) : Prop where
  c0 : w.cell? ⟨p, 0, none⟩ = some (.int .i64 x.kind)
  c1 : w.cell? ⟨p, 1, none⟩ = some (.int .i64 x.now)
  c3 : w.cell? ⟨p, 3, none⟩ = some (.int .i64 x.slot.epoch)
  c4 : w.cell? ⟨p, 4, none⟩ = some (.int .i64 x.slot.place)
  c32 : w.cell? ⟨p, 32, none⟩ = some (.int .i64 x.slot.action)
theorem actf_of {w : World} {p : Nat} {x : ActM} {t : TypeId} {fr : Nat × Nat} (h : w.heap[p]? = some (.cells (actV x) t fr)) : ActF w p x := by
  have hs : SlF w p 2 x.slot := slf_of h fun j hj => actV_slot x j hj
  exact ⟨by rw [cell_of_row _ _ _ _ _ _ h, actV_lo x 0 (by decide)]; rfl, by rw [cell_of_row _ _ _ _ _ _ h, actV_lo x 1 (by decide)]; rfl, hs.c1, hs.c2, hs.c30⟩
theorem act_slot {w : World} {p : Nat} {x : ActM} {t : TypeId} {fr : Nat × Nat} (h : w.heap[p]? = some (.cells (actV x) t fr)) : (loadVar 38 ⟨p, 2, none⟩).run Try.prog w = .ok (.agg (slotV x.slot)) w := ld_row h fun j hj => actV_slot x j hj
theorem act_head {w : World} {p : Nat} {x : ActM} {t : TypeId} {fr : Nat × Nat} (hH : x.head.length = 13) (h : w.heap[p]? = some (.cells (actV x) t fr)) : (loadVar 34 ⟨p, 38, none⟩).run Try.prog w = .ok (.agg (hv x.head)) w := hdr_load hH h fun j => actV_head x j
def twoV (g r : Nat) : Array Value := #[.pointer (some ⟨g, 0, none⟩), .pointer (some ⟨r, 0, none⟩)]

/-! Both tables, call by call. -/
theorem TwoT.below {B : Nat} {w w' : World} {g r gr : Nat} {R : Rm} {S : Bks} {L : List Slt} {v1 v2 v3 vl : Value} (h : TwoT B w g r gr R S L v1 v2 v3 vl) (hb : Below w.heap.size w w') : TwoT B w' g r gr R S L v1 v2 v3 vl := ⟨h.t.below hb, h.rt.below hb, h.d⟩
/-- What both tables take. -/
def footP (g r gr : Nat) (v1 v2 v3 vl : Value) (k : Nat) : Prop := footT g v1 v2 v3 k ∨ footR r gr vl k
/-- What a call leaves of both tables. -/
structure TwoTo (B : Nat) (w w1 : World) (g r gr : Nat) (R : Rm) (S : Bks) (L : List Slt) (v1 v2 v3 vl u1 u2 u3 ul : Value) : Prop where
  two : TwoT B w1 g r gr R S L u1 u2 u3 ul
  kept : Kept (footP g r gr v1 v2 v3 vl) w w1
  foot : ∀ k, footP g r gr u1 u2 u3 ul k → footP g r gr v1 v2 v3 vl k ∨ w.heap.size ≤ k
theorem TwoT.stay {B : Nat} {w w1 : World} {g r gr : Nat} {R : Rm} {S : Bks} {L : List Slt} {v1 v2 v3 vl : Value} (h : TwoT B w g r gr R S L v1 v2 v3 vl) (hb : Below w.heap.size w w1) : TwoTo B w w1 g r gr R S L v1 v2 v3 vl v1 v2 v3 vl := ⟨h.below hb, Kept.of_below hb, fun _ e => .inl e⟩
theorem TwoTo.trans {B : Nat} {w w1 w2 : World} {g r gr : Nat} {R : Rm} {S S' : Bks} {L L' : List Slt} {v1 v2 v3 vl u1 u2 u3 ul x1 x2 x3 xl : Value} (h : TwoTo B w w1 g r gr R S L v1 v2 v3 vl u1 u2 u3 ul) (h' : TwoTo B w1 w2 g r gr R S' L' u1 u2 u3 ul x1 x2 x3 xl) : TwoTo B w w2 g r gr R S' L' v1 v2 v3 vl x1 x2 x3 xl :=
  ⟨h'.two, h.kept.trans h'.kept h.foot, fun k e => by
    rcases h'.foot k e with e | e
    · exact h.foot k e
    · exact .inr (Nat.le_trans h.kept.size e)⟩
theorem TwoT.own {B : Nat} {w w1 : World} {g r gr : Nat} {R : Rm} {S S' : Bks} {L : List Slt} {v1 v2 v3 vl : Value} (h : TwoT B w g r gr R S L v1 v2 v3 vl) (ht : TabTo B w w1 g R S' v1 v2 v3) : ∃ u1 u2 u3, TwoTo B w w1 g r gr R S' L v1 v2 v3 vl u1 u2 u3 vl := by
  obtain ⟨u1, u2, u3, h1, h2, h3⟩ := ht
  refine ⟨u1, u2, u3, ⟨h1, h.rt.kept h2 fun k e e' => h.d k e' e, fun k e e' => ?_⟩, h2.mono fun k _ e => .inl e, fun k e => ?_⟩
  · rcases h3 k e with e | e
    · exact h.d k e e'
    · have := (h.rt.foot_in k e').2; omega
  · rcases e with e | e
    · rcases h3 k e with e | e
      · exact .inl (.inl e)
      · exact .inr e
    · exact .inl (.inr e)
theorem TwoT.ref {B : Nat} {w w1 : World} {g r gr : Nat} {R : Rm} {S : Bks} {L L' : List Slt} {v1 v2 v3 vl : Value} (h : TwoT B w g r gr R S L v1 v2 v3 vl) (ht : RTabTo B w w1 r gr R L' vl) : ∃ ul, TwoTo B w w1 g r gr R S L' v1 v2 v3 vl v1 v2 v3 ul := by
  obtain ⟨ul, h1, h2, h3⟩ := ht
  refine ⟨ul, ⟨h.t.kept h2 fun k e e' => h.d k e e', h1, fun k e e' => ?_⟩, h2.mono fun k _ e => .inr e, fun k e => ?_⟩
  · rcases h3 k e' with e' | e'
    · exact h.d k e e'
    · have := (h.t.foot_in k e).2; omega
  · rcases e with e | e
    · exact .inl (.inl e)
    · rcases h3 k e with e | e
      · exact .inl (.inr e)
      · exact .inr e
theorem RTabTo.belowB {B : Nat} {w w' : World} {r gr : Nat} {R : Rm} {L L' : List Slt} {vl : Value} (h : RTabV B w r gr R L vl) (ht : RTabTo B w w' r gr R L' vl) : Below B w w' := by
  obtain ⟨u, h1, h2, h3⟩ := ht
  exact h2.below (fun k e => (h.foot_in k e).1) (Nat.le_trans h.hB (Nat.le_of_lt (Array.getElem?_eq_some_iff.1 h.blk).1))
/-- Both tables, alike, behind n calls. -/
structure Pl (B n : Nat) (w : World) (g r gr : Nat) (R : Rm) (S : Bks) (L : List Slt) (v1 v2 v3 vl : Value) : Prop where
  two : TwoT B w g r gr R S L v1 v2 v3 vl
  bk : bks L = S
  ib : InBanks L
  inv : InvX n R S
  room : R.cache ≤ 2048 ∧ R.auth ≤ 2048 ∧ R.part ≤ 2048
/-- The same behind a call, with what it has changed. -/
def PlTo (B n : Nat) (w w1 : World) (g r gr : Nat) (R : Rm) (S : Bks) (v1 v2 v3 vl : Value) : Prop := ∃ L u1 u2 u3 ul, TwoTo B w w1 g r gr R S L v1 v2 v3 vl u1 u2 u3 ul ∧ Pl B n w1 g r gr R S L u1 u2 u3 ul
def PlE (B n : Nat) (w : World) (g r gr : Nat) (R : Rm) (S : Bks) : Prop := ∃ L v1 v2 v3 vl, Pl B n w g r gr R S L v1 v2 v3 vl
theorem Pl.below {B n : Nat} {w w' : World} {g r gr : Nat} {R : Rm} {S : Bks} {L : List Slt} {v1 v2 v3 vl : Value} (h : Pl B n w g r gr R S L v1 v2 v3 vl) (hb : Below w.heap.size w w') : Pl B n w' g r gr R S L v1 v2 v3 vl := ⟨h.two.below hb, h.bk, h.ib, h.inv, h.room⟩
theorem PlE.below {B n : Nat} {w w' : World} {g r gr : Nat} {R : Rm} {S : Bks} (h : PlE B n w g r gr R S) (hb : Below w.heap.size w w') : PlE B n w' g r gr R S := by
  obtain ⟨L, v1, v2, v3, vl, h⟩ := h
  exact ⟨L, v1, v2, v3, vl, h.below hb⟩
section
variable {B n : Nat} {w : World} {g r gr : Nat} {R : Rm} {S : Bks} {L : List Slt} {v1 v2 v3 vl : Value}
theorem Pl.len (h : Pl B n w g r gr R S L v1 v2 v3 vl) : L.length ≤ 1000000 := by
  have h1 := size_L L h.ib
  rw [h.bk] at h1
  unfold sizeT at h1
  have h2 := h.inv.inv.lc
  have h3 := h.inv.inv.la
  have h4 := h.inv.inv.lp
  have h5 := h.room
  omega
theorem Pl.lens (h : Pl B n w g r gr R S L v1 v2 v3 vl) : ∀ b, (bankL S b).length ≤ 1000000 := fun b => by
  have h2 := h.inv.inv.lc
  have h3 := h.inv.inv.la
  have h4 := h.inv.inv.lp
  have h5 := h.room
  unfold bankL
  split
  · omega
  · split
    · omega
    · split
      · omega
      · simp
theorem InvX.bank (h : InvX n R S) : ∀ b, ∀ x ∈ bankL S b, OkS OkC n (b : Int) x := fun b x hx => by
  unfold bankL at hx
  split at hx
  · rename_i e; subst e; exact h.inv.c x hx
  · split at hx
    · rename_i e; subst e; exact h.inv.a x hx
    · split at hx
      · rename_i e; subst e; exact h.inv.p x hx
      · simp at hx
theorem Pl.all (h : Pl B n w g r gr R S L v1 v2 v3 vl) : ∀ x ∈ L, ∃ b, OkS OkC n b x := fun x hx => by
  have hb := h.bk
  rcases h.ib x hx with e | e | e
  · exact ⟨1, h.inv.inv.c x (by rw [← hb]; exact bkOf_mem.2 ⟨hx, e⟩)⟩
  · exact ⟨2, h.inv.inv.a x (by rw [← hb]; exact bkOf_mem.2 ⟨hx, e⟩)⟩
  · exact ⟨3, h.inv.inv.p x (by rw [← hb]; exact bkOf_mem.2 ⟨hx, e⟩)⟩
theorem Pl.noT (h : Pl B n w g r gr R S L v1 v2 v3 vl) : ∀ k, w.heap.size ≤ k → ¬ footT g v1 v2 v3 k := fun k hk e => by have := (h.two.t.foot_in k e).2; omega
theorem Pl.noR (h : Pl B n w g r gr R S L v1 v2 v3 vl) : ∀ k, w.heap.size ≤ k → ¬ footR r gr vl k := fun k hk e => by have := (h.two.rt.foot_in k e).2; omega
theorem Pl.hB (h : Pl B n w g r gr R S L v1 v2 v3 vl) : B ≤ w.heap.size := by have h1 := h.two.t.hB; have h2 := (Array.getElem?_eq_some_iff.1 h.two.t.blk).1; omega
end
end Go.Proofs.Ytojhckjdkafpmaa
namespace Go.Proofs.Ytojhckjdkafpmaa
open Go Go.RowKit
set_option maxRecDepth 20000

def slotsT (S : Bks) (k : Int) : List Slt := if 0 ≤ k ∧ k ≤ 3 then bankL S k.toNat else []
set_option maxHeartbeats 4000000 in
theorem count_any (B : Nat) (w : World) (g : Nat) (R : Rm) (S : Bks) (v1 v2 v3 : Value) (h : TabV B w g R S v1 v2 v3) (k : Int) :
    Calls Try.prog 13 #[.pointer (some ⟨g, 0, none⟩), .int .i64 k] w fun e w' => e = .returned (.int .i64 ((slotsT S k).length : Nat)) ∧ w' = w := by
  have WI : Hid (∀ b, decide (0 ≤ k ∧ k ≤ 3) = b → ∀ W, Calls Try.prog 39 #[.int .i64 k, .int .i64 3] W fun e w' => e = .returned (.bool b) ∧ w' = W) := by
    intro b hb W
    rw [← hb]
    exact within_any k 3 W
  by_cases hk : 0 ≤ k ∧ k ≤ 3
  · have e1 : slotsT S k = bankL S k.toNat := by unfold slotsT; rw [if_pos hk]
    rw [e1]
    obtain ⟨b, rfl⟩ := Int.eq_ofNat_of_zero_le hk.1
    have hb : b < 4 := by omega
    have hb4 : (b : Int) < 4 := by omega
    have hw := WI.out true (decide_eq_true hk)
    have WT : Hid _ := hw
    have c1 := h.f.bankCell b hb
    obtain ⟨o, cap, e, he, hm⟩ := (h.bank b).slice
    unfold maxLen at hm
    rw [e] at c1
    rw [Int.toNat_natCast]
    generalize (bankL S b).length = n at c1 he ⊢
    clear h e WI hw hk e1
    go_enter Try.func13, Try.ntmps13
    go_wp2_with (go_at_call 39; refine (WT.out _).mono ?_; rintro e w1 ⟨rfl, rfl⟩)
    go_ret
    exact ⟨rfl, rfl⟩
  · have e1 : slotsT S k = [] := by unfold slotsT; rw [if_neg hk]
    rw [e1]
    have hw := WI.out false (decide_eq_false hk)
    have WT : Hid _ := hw
    clear h WI hw hk e1
    go_enter Try.func13, Try.ntmps13
    go_wp2_with (go_at_call 39; refine (WT.out _).mono ?_; rintro e w1 ⟨rfl, rfl⟩)
    go_ret
    exact ⟨rfl, rfl⟩
set_option maxHeartbeats 4000000 in
theorem slots_any (B : Nat) (w : World) (g : Nat) (R : Rm) (S : Bks) (v1 v2 v3 : Value) (h : TabV B w g R S v1 v2 v3) (k : Int) (hn : ∀ b, (bankL S b).length ≤ 1000000) :
    Calls Try.prog 14 #[.pointer (some ⟨g, 0, none⟩), .int .i64 k] w fun e w' => (∃ u, e = .returned u ∧ SlotsAt w.heap.size w' u (slotsT S k)) ∧ Below w.heap.size w w' := by
  have WI : Hid (∀ b, decide (0 ≤ k ∧ k ≤ 3) = b → ∀ W, Calls Try.prog 39 #[.int .i64 k, .int .i64 3] W fun e w' => e = .returned (.bool b) ∧ w' = W) := by
    intro b hb W
    rw [← hb]
    exact within_any k 3 W
  by_cases hk : 0 ≤ k ∧ k ≤ 3
  · have e1 : slotsT S k = bankL S k.toNat := by unfold slotsT; rw [if_pos hk]
    rw [e1]
    obtain ⟨b, rfl⟩ := Int.eq_ofNat_of_zero_le hk.1
    have hb : b < 4 := by omega
    have hb4 : (b : Int) < 4 := by omega
    have hw := WI.out true (decide_eq_true hk)
    have WT : Hid _ := hw
    have c1 := h.f.bankCell b hb
    rw [Int.toNat_natCast]
    have CL := clone_any B _ _ w (h.bank b) (hn b)
    obtain ⟨o, cap, e, he, hm⟩ := (h.bank b).slice
    unfold maxLen at hm
    rw [e] at c1 CL
    generalize hLL : bankL S b = L at c1 CL he ⊢
    have CL' : Hid (∀ W, W = w → Calls Try.prog 40 #[.slice o L.length cap] W fun e w' => (∃ u, e = .returned u ∧ SlotsAt w.heap.size w' u L) ∧ Below w.heap.size w w') := by
      intro W hW; subst hW; exact CL
    generalize L.length = n at c1 CL' he
    clear h e WI hw hk e1 CL hLL hn
    go_enter Try.func14, Try.ntmps14
    go_wp2_with (first | (go_at_call 39; refine (WT.out _).mono ?_; rintro e w1 ⟨rfl, rfl⟩) | (go_at_call 40; refine (CL'.out _ rfl).mono ?_; rintro e w1 ⟨⟨u, rfl, hu⟩, hb1⟩))
    go_ret
    exact ⟨⟨_, rfl, hu⟩, hb1⟩
  · have e1 : slotsT S k = [] := by unfold slotsT; rw [if_neg hk]
    rw [e1]
    have hw := WI.out false (decide_eq_false hk)
    have WT : Hid _ := hw
    clear h WI hw hk e1 hn
    go_enter Try.func14, Try.ntmps14
    go_wp2_with (go_at_call 39; refine (WT.out _).mono ?_; rintro e w1 ⟨rfl, rfl⟩)
    go_ret
    exact ⟨⟨_, rfl, SlotsAt.nil _ _⟩, Below.refl _ _⟩
end Go.Proofs.Ytojhckjdkafpmaa
namespace Go.Proofs.Ytojhckjdkafpmaa
open Go Go.RowKit
set_option maxRecDepth 20000

theorem awT4 : fixV m0 m0 0 true = m128 := by kernel_rfl
theorem awT5 (w : World) : Calls Try.prog 26 #[.agg (cv m0 m0), .int .i64 0] w fun e w' => e = .returned (.tuple #[.agg (cv m0 m128), .agg (cv m128 m128), .int .i64 0]) ∧ Below w.heap.size w w' := by
  have := split_free m0 m0 b0 b0 0 (by decide) (by kernel_rfl) w; rwa [ex1, ex2, awT4] at this
def awA : Cub := (m0, m128)
def awB : Cub := (m128, m128)
def awR : Rm := ⟨1, 9, 9, 5, 0⟩
def aw1 : Slt := newC 0 1 (canC awA) 3
def aw2 : Slt := newC 1 1 (canC awB) 4
def S0 : Bks := ⟨[], [], []⟩
def S1 : Bks := ⟨[aw1], [], []⟩
def S2 : Bks := ⟨[aw2], [], []⟩
theorem okA : OkC awA := ⟨b0, b128⟩
theorem okB : OkC awB := ⟨b128, b128⟩
theorem awL1 : learnT 1 [] aw1 = ([aw1], zeroS, false, 0) := rfl
theorem awN : sameC aw2 aw1 = false := by kernel_rfl
theorem awL2 : learnT 1 [aw1] aw2 = ([aw2], aw1, true, 0) := by
  unfold learnT
  rw [if_neg (by decide)]
  have h : leastF (sameC aw2) (fun _ => 0) [aw1] = none := leastF_none.2 fun y hy => by
    obtain rfl : y = aw1 := by simpa using hy
    exact awN
  rw [h]
  rfl
theorem awM : mtS hsC 1 m128 aw2 = true := by kernel_rfl
theorem awP : peekT S2 (mtS hsC 1 m128) = (aw2, true) := by
  unfold peekT findT S2
  have h : leastF (mtS hsC 1 m128) (fun _ => 0) [aw2] = some ([], aw2, []) := leastF_iff.2 ⟨rfl, awM, fun y hy => by simp at hy, fun y hy => by simp at hy⟩
  simp only [h]
theorem awT : tickT awR.idle awR.hard 6 S2 = (S0, [aw2]) := by
  have h : oldS awR.idle awR.hard 6 aw2 = true := by kernel_rfl
  unfold tickT S2 S0
  simp [h]
theorem bank0 (S : Bks) (P : Slt → Prop) (h1 : ∀ x ∈ S.c, P x) (h2 : ∀ x ∈ S.a, P x) (h3 : ∀ x ∈ S.p, P x) : ∀ b, ∀ x ∈ bankL S b, P x := by
  intro b x hx
  unfold bankL at hx
  split at hx
  · exact h1 x hx
  · split at hx
    · exact h2 x hx
    · split at hx
      · exact h3 x hx
      · simp at hx
theorem TabTo.belowB {B : Nat} {w w' : World} {g : Nat} {R : Rm} {S S' : Bks} {v1 v2 v3 : Value} (h : TabV B w g R S v1 v2 v3) (ht : TabTo B w w' g R S' v1 v2 v3) : Below B w w' := by
  obtain ⟨u1, u2, u3, t1, t2, t3⟩ := ht
  have hB : B ≤ w.heap.size := by have := h.hB; have := (Array.getElem?_eq_some_iff.1 h.blk).1; omega
  exact t2.below (fun k hk => (h.foot_in k hk).1) hB
theorem awLearn1 (B g : Nat) (W : World) (v1 v2 v3 : Value) (h : TabV B W g awR S0 v1 v2 v3) : Calls Try.prog 22 #[.pointer (some ⟨g, 0, none⟩), .int .i64 0, .int .i64 1, .agg (cv m0 m128), .int .i64 3] W fun r w' => r = .returned (.tuple #[.agg (slotV zeroS), .bool false, .int .i64 0]) ∧ TabTo B W w' g awR S1 v1 v2 v3 := by
  have h9 := learn_any B W g awR S0 v1 v2 v3 h 0 1 awA 3 okA (by decide) List.Pairwise.nil (fun y hy => by simp [S0] at hy)
  have e1 : pad awA.1 = m0 := pad_id rfl
  have e2 : pad awA.2 = m128 := pad_id rfl
  rw [e1, e2, show newC 0 1 (canC awA) 3 = aw1 from rfl, show learnT awR.cache S0.c aw1 = ([aw1], zeroS, false, 0) from awL1] at h9
  refine h9.mono ?_
  rintro r w' ⟨rfl, ht⟩
  exact ⟨rfl, ht⟩
theorem awLearn2 (B g : Nat) (W : World) (v1 v2 v3 : Value) (h : TabV B W g awR S1 v1 v2 v3) : Calls Try.prog 22 #[.pointer (some ⟨g, 0, none⟩), .int .i64 1, .int .i64 1, .agg (cv m128 m128), .int .i64 4] W fun r w' => r = .returned (.tuple #[.agg (slotV aw1), .bool true, .int .i64 0]) ∧ TabTo B W w' g awR S2 v1 v2 v3 := by
  have h9 := learn_any B W g awR S1 v1 v2 v3 h 1 1 awB 4 okB (by decide) (List.pairwise_singleton _ _) (fun y hy => by obtain rfl : y = aw1 := (by simpa [S1] using hy); exact canC_ok okA)
  have e1 : pad awB.1 = m128 := pad_id rfl
  have e2 : pad awB.2 = m128 := pad_id rfl
  rw [e1, e2, show newC 1 1 (canC awB) 4 = aw2 from rfl, show learnT awR.cache S1.c aw2 = ([aw2], aw1, true, 0) from awL2] at h9
  refine h9.mono ?_
  rintro r w' ⟨rfl, ht⟩
  exact ⟨rfl, ht⟩
theorem awPeek (B g : Nat) (W : World) (v1 v2 v3 : Value) (h : TabV B W g awR S2 v1 v2 v3) : Calls Try.prog 18 #[.pointer (some ⟨g, 0, none⟩), .int .i64 1, .agg (hv m128)] W fun r w' => r = .returned (.tuple #[.agg (slotV aw2), .bool true]) ∧ Below W.heap.size W w' := by
  have h9 := peek_any B W g awR S2 v1 v2 v3 h 1 m128 b128 (fun x hx => by obtain rfl : x = aw2 := (by simpa [S2] using hx); rfl) (bank0 S2 _ (fun y hy => by obtain rfl : y = aw2 := (by simpa [S2] using hy); exact canC_ok okB) (fun y hy => by simp [S2] at hy) (fun y hy => by simp [S2] at hy))
  rw [awP] at h9
  exact h9
theorem awTick (B g : Nat) (W : World) (v1 v2 v3 : Value) (h : TabV B W g awR S2 v1 v2 v3) : Calls Try.prog 24 #[.pointer (some ⟨g, 0, none⟩), .int .i64 6] W fun r w' => (∃ o c, r = .returned (.slice o 1 c)) ∧ TabTo B W w' g awR S0 v1 v2 v3 := by
  have h9 := tick_any B W g awR S2 v1 v2 v3 h 6 (by decide) (fun x hx => by obtain rfl : x = aw2 := (by simpa [S2] using hx); exact ⟨by decide, by decide, by decide, by decide⟩)
  rw [awT] at h9
  refine h9.mono ?_
  rintro r w' ⟨u, rfl, hu, ht⟩
  obtain ⟨o, c, e, _⟩ := hu.slice
  exact ⟨⟨o, c, by rw [e]; rfl⟩, ht⟩
theorem awCount (B g : Nat) (W : World) (v1 v2 v3 : Value) (h : TabV B W g awR S0 v1 v2 v3) : Calls Try.prog 13 #[.pointer (some ⟨g, 0, none⟩), .int .i64 1] W fun r w' => r = .returned (.int .i64 0) ∧ w' = W := by
  exact count_any B W g awR S0 v1 v2 v3 h 1
end Go.Proofs.Ytojhckjdkafpmaa
