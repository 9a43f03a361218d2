import Derived.Test.YtojhckjdkafpmabJ7
import Derived.Test.YtojhckjdkafpmabJ11
import Derived.Test.YtojhckjdkafpmabJ3
namespace Go.Proofs.Ytojhckjdkafpmab
open Go Go.RowKit
set_option maxRecDepth 20000

def slotsT (S : Bks) (k : Int) : List Slt := if 0 ≤ k ∧ k ≤ 3 then bankL S k.toNat else []
set_option maxHeartbeats 4000000 in
theorem count_any (B : Nat) (w : World) (g : Nat) (R : Rm) (S : Bks) (v1 v2 v3 : Value) (h : TabV B w g R S v1 v2 v3) (k : Int) :
    Calls Try.prog 12 #[.pointer (some ⟨g, 0, none⟩), .int .i64 k] w fun e w' => e = .returned (.int .i64 ((slotsT S k).length : Nat)) ∧ w' = w := by
  have WI : Hid (∀ b, decide (0 ≤ k ∧ k ≤ 3) = b → ∀ W, Calls Try.prog 33 #[.int .i64 k, .int .i64 3] W fun e w' => e = .returned (.bool b) ∧ w' = W) := by
    intro b hb W
    rw [← hb]
    exact within_any k 3 W
  by_cases hk : 0 ≤ k ∧ k ≤ 3
  · have e1 : slotsT S k = bankL S k.toNat := by unfold slotsT; rw [if_pos hk]
    rw [e1]
    obtain ⟨b, rfl⟩ := Int.eq_ofNat_of_zero_le hk.1
    have hb : b < 4 := by omega
    have hb4 : (b : Int) < 4 := by omega
    have hw := WI.out true (decide_eq_true hk)
    have WT : Hid _ := hw
    have c1 := h.f.bankCell b hb
    obtain ⟨o, cap, e, he, hm⟩ := (h.bank b).slice
    unfold maxLen at hm
    rw [e] at c1
    rw [Int.toNat_natCast]
    generalize (bankL S b).length = n at c1 he ⊢
    clear h e WI hw hk e1
    go_enter Try.func12, Try.ntmps12
    go_wp2_with (go_at_call 33; refine (WT.out _).mono ?_; rintro e w1 ⟨rfl, rfl⟩)
    go_ret
    exact ⟨rfl, rfl⟩
  · have e1 : slotsT S k = [] := by unfold slotsT; rw [if_neg hk]
    rw [e1]
    have hw := WI.out false (decide_eq_false hk)
    have WT : Hid _ := hw
    clear h WI hw hk e1
    go_enter Try.func12, Try.ntmps12
    go_wp2_with (go_at_call 33; refine (WT.out _).mono ?_; rintro e w1 ⟨rfl, rfl⟩)
    go_ret
    exact ⟨rfl, rfl⟩
set_option maxHeartbeats 4000000 in
theorem slots_any (B : Nat) (w : World) (g : Nat) (R : Rm) (S : Bks) (v1 v2 v3 : Value) (h : TabV B w g R S v1 v2 v3) (k : Int) (hn : ∀ b, (bankL S b).length ≤ 1000000) :
    Calls Try.prog 13 #[.pointer (some ⟨g, 0, none⟩), .int .i64 k] w fun e w' => (∃ u, e = .returned u ∧ SlotsAt w.heap.size w' u (slotsT S k)) ∧ Below w.heap.size w w' := by
  have WI : Hid (∀ b, decide (0 ≤ k ∧ k ≤ 3) = b → ∀ W, Calls Try.prog 33 #[.int .i64 k, .int .i64 3] W fun e w' => e = .returned (.bool b) ∧ w' = W) := by
    intro b hb W
    rw [← hb]
    exact within_any k 3 W
  by_cases hk : 0 ≤ k ∧ k ≤ 3
  · have e1 : slotsT S k = bankL S k.toNat := by unfold slotsT; rw [if_pos hk]
    rw [e1]
    obtain ⟨b, rfl⟩ := Int.eq_ofNat_of_zero_le hk.1
    have hb : b < 4 := by omega
    have hb4 : (b : Int) < 4 := by omega
    have hw := WI.out true (decide_eq_true hk)
    have WT : Hid _ := hw
    have c1 := h.f.bankCell b hb
    rw [Int.toNat_natCast]
    have CL := clone_any B _ _ w (h.bank b) (hn b)
    obtain ⟨o, cap, e, he, hm⟩ := (h.bank b).slice
    unfold maxLen at hm
    rw [e] at c1 CL
    generalize hLL : bankL S b = L at c1 CL he ⊢
    have CL' : Hid (∀ W, W = w → Calls Try.prog 34 #[.slice o L.length cap] W fun e w' => (∃ u, e = .returned u ∧ SlotsAt w.heap.size w' u L) ∧ Below w.heap.size w w') := by
      intro W hW; subst hW; exact CL
    generalize L.length = n at c1 CL' he
    clear h e WI hw hk e1 CL hLL hn
    go_enter Try.func13, Try.ntmps13
    go_wp2_with (first | (go_at_call 33; refine (WT.out _).mono ?_; rintro e w1 ⟨rfl, rfl⟩) | (go_at_call 34; refine (CL'.out _ rfl).mono ?_; rintro e w1 ⟨⟨u, rfl, hu⟩, hb1⟩))
    go_ret
    exact ⟨⟨_, rfl, hu⟩, hb1⟩
  · have e1 : slotsT S k = [] := by unfold slotsT; rw [if_neg hk]
    rw [e1]
    have hw := WI.out false (decide_eq_false hk)
    have WT : Hid _ := hw
    clear h WI hw hk e1 hn
    go_enter Try.func13, Try.ntmps13
    go_wp2_with (go_at_call 33; refine (WT.out _).mono ?_; rintro e w1 ⟨rfl, rfl⟩)
    go_ret
    exact ⟨⟨_, rfl, SlotsAt.nil _ _⟩, Below.refl _ _⟩
end Go.Proofs.Ytojhckjdkafpmab
namespace Go.Proofs.Ytojhckjdkafpmab
open Go Go.RowKit
set_option maxRecDepth 20000

theorem awT4 : fixV m0 m0 0 true = m128 := by kernel_rfl
theorem awT5 (w : World) : Calls Try.prog 15 #[.agg (cv m0 m0), .int .i64 0] w fun e w' => e = .returned (.tuple #[.agg (cv m0 m128), .agg (cv m128 m128), .int .i64 0]) ∧ Below w.heap.size w w' := by
  have := split_free m0 m0 b0 b0 0 (by decide) (by kernel_rfl) w; rwa [ex1, ex2, awT4] at this
def awA : Cub := (m0, m128)
def awB : Cub := (m128, m128)
def awR : Rm := ⟨1, 9, 9, 5, 0⟩
def aw1 : Slt := newC 0 1 (canC awA) 3
def aw2 : Slt := newC 1 1 (canC awB) 4
def S0 : Bks := ⟨[], [], []⟩
def S1 : Bks := ⟨[aw1], [], []⟩
def S2 : Bks := ⟨[aw2], [], []⟩
theorem okA : OkC awA := ⟨b0, b128⟩
theorem okB : OkC awB := ⟨b128, b128⟩
theorem awL1 : learnT 1 [] aw1 = ([aw1], zeroS, false, 0) := rfl
theorem awN : sameC aw2 aw1 = false := by kernel_rfl
theorem awL2 : learnT 1 [aw1] aw2 = ([aw2], aw1, true, 0) := by
  unfold learnT
  rw [if_neg (by decide)]
  have h : leastF (sameC aw2) (fun _ => 0) [aw1] = none := leastF_none.2 fun y hy => by
    obtain rfl : y = aw1 := by simpa using hy
    exact awN
  rw [h]
  rfl
theorem awM : mtS hsC 1 m128 aw2 = true := by kernel_rfl
theorem awP : peekT S2 (mtS hsC 1 m128) = (aw2, true) := by
  unfold peekT findT S2
  have h : leastF (mtS hsC 1 m128) (fun _ => 0) [aw2] = some ([], aw2, []) := leastF_iff.2 ⟨rfl, awM, fun y hy => by simp at hy, fun y hy => by simp at hy⟩
  simp only [h]
theorem awT : tickT awR.idle awR.hard 6 S2 = (S0, [aw2]) := by
  have h : oldS awR.idle awR.hard 6 aw2 = true := by kernel_rfl
  unfold tickT S2 S0
  simp [h]
theorem bank0 (S : Bks) (P : Slt → Prop) (h1 : ∀ x ∈ S.c, P x) (h2 : ∀ x ∈ S.a, P x) (h3 : ∀ x ∈ S.p, P x) : ∀ b, ∀ x ∈ bankL S b, P x := by
  intro b x hx
  unfold bankL at hx
  split at hx
  · exact h1 x hx
  · split at hx
    · exact h2 x hx
    · split at hx
      · exact h3 x hx
      · simp at hx
theorem TabTo.belowB {B : Nat} {w w' : World} {g : Nat} {R : Rm} {S S' : Bks} {v1 v2 v3 : Value} (h : TabV B w g R S v1 v2 v3) (ht : TabTo B w w' g R S' v1 v2 v3) : Below B w w' := by
  obtain ⟨u1, u2, u3, t1, t2, t3⟩ := ht
  have hB : B ≤ w.heap.size := by have := h.hB; have := (Array.getElem?_eq_some_iff.1 h.blk).1; omega
  exact t2.below (fun k hk => (h.foot_in k hk).1) hB
theorem awLearn1 (B g : Nat) (W : World) (v1 v2 v3 : Value) (h : TabV B W g awR S0 v1 v2 v3) : Calls Try.prog 5 #[.pointer (some ⟨g, 0, none⟩), .int .i64 0, .int .i64 1, .agg (cv m0 m128), .int .i64 3] W fun r w' => r = .returned (.tuple #[.agg (slotV zeroS), .bool false, .int .i64 0]) ∧ TabTo B W w' g awR S1 v1 v2 v3 := by
  have h9 := learn_any B W g awR S0 v1 v2 v3 h 0 1 awA 3 okA (by decide) List.Pairwise.nil (fun y hy => by simp [S0] at hy)
  have e1 : pad awA.1 = m0 := pad_id rfl
  have e2 : pad awA.2 = m128 := pad_id rfl
  rw [e1, e2, show newC 0 1 (canC awA) 3 = aw1 from rfl, show learnT awR.cache S0.c aw1 = ([aw1], zeroS, false, 0) from awL1] at h9
  refine h9.mono ?_
  rintro r w' ⟨rfl, ht⟩
  exact ⟨rfl, ht⟩
theorem awLearn2 (B g : Nat) (W : World) (v1 v2 v3 : Value) (h : TabV B W g awR S1 v1 v2 v3) : Calls Try.prog 5 #[.pointer (some ⟨g, 0, none⟩), .int .i64 1, .int .i64 1, .agg (cv m128 m128), .int .i64 4] W fun r w' => r = .returned (.tuple #[.agg (slotV aw1), .bool true, .int .i64 0]) ∧ TabTo B W w' g awR S2 v1 v2 v3 := by
  have h9 := learn_any B W g awR S1 v1 v2 v3 h 1 1 awB 4 okB (by decide) (List.pairwise_singleton _ _) (fun y hy => by obtain rfl : y = aw1 := (by simpa [S1] using hy); exact canC_ok okA)
  have e1 : pad awB.1 = m128 := pad_id rfl
  have e2 : pad awB.2 = m128 := pad_id rfl
  rw [e1, e2, show newC 1 1 (canC awB) 4 = aw2 from rfl, show learnT awR.cache S1.c aw2 = ([aw2], aw1, true, 0) from awL2] at h9
  refine h9.mono ?_
  rintro r w' ⟨rfl, ht⟩
  exact ⟨rfl, ht⟩
theorem awPeek (B g : Nat) (W : World) (v1 v2 v3 : Value) (h : TabV B W g awR S2 v1 v2 v3) : Calls Try.prog 7 #[.pointer (some ⟨g, 0, none⟩), .int .i64 1, .agg (hv m128)] W fun r w' => r = .returned (.tuple #[.agg (slotV aw2), .bool true]) ∧ Below W.heap.size W w' := by
  have h9 := peek_any B W g awR S2 v1 v2 v3 h 1 m128 b128 (fun x hx => by obtain rfl : x = aw2 := (by simpa [S2] using hx); rfl) (bank0 S2 _ (fun y hy => by obtain rfl : y = aw2 := (by simpa [S2] using hy); exact canC_ok okB) (fun y hy => by simp [S2] at hy) (fun y hy => by simp [S2] at hy))
  rw [awP] at h9
  exact h9
theorem awTick (B g : Nat) (W : World) (v1 v2 v3 : Value) (h : TabV B W g awR S2 v1 v2 v3) : Calls Try.prog 11 #[.pointer (some ⟨g, 0, none⟩), .int .i64 6] W fun r w' => (∃ o c, r = .returned (.slice o 1 c)) ∧ TabTo B W w' g awR S0 v1 v2 v3 := by
  have h9 := tick_any B W g awR S2 v1 v2 v3 h 6 (by decide) (fun x hx => by obtain rfl : x = aw2 := (by simpa [S2] using hx); exact ⟨by decide, by decide, by decide, by decide⟩)
  rw [awT] at h9
  refine h9.mono ?_
  rintro r w' ⟨u, rfl, hu, ht⟩
  obtain ⟨o, c, e, _⟩ := hu.slice
  exact ⟨⟨o, c, by rw [e]; rfl⟩, ht⟩
theorem awCount (B g : Nat) (W : World) (v1 v2 v3 : Value) (h : TabV B W g awR S0 v1 v2 v3) : Calls Try.prog 12 #[.pointer (some ⟨g, 0, none⟩), .int .i64 1] W fun r w' => r = .returned (.int .i64 0) ∧ w' = W := by
  exact count_any B W g awR S0 v1 v2 v3 h 1
end Go.Proofs.Ytojhckjdkafpmab
namespace Go.Proofs.Ytojhckjdkafpmab
open Go Go.RowKit
set_option maxRecDepth 20000

set_option maxHeartbeats 16000000 in
theorem awakeT_any (w : World) : Calls Try.prog 4 #[] w fun r w' => r = .returned (.bool true) ∧ Below w.heap.size w w' := by
  have NW : Hid (∀ W, Calls Try.prog 14 #[.int .i64 1, .int .i64 9, .int .i64 9, .int .i64 5, .int .i64 0] W fun e w' => (∃ g, e = .returned (.tuple #[.pointer (some ⟨g, 0, none⟩), .int .i64 0]) ∧ TabV W.heap.size w' g awR S0 (.slice none 0 0) (.slice none 0 0) (.slice none 0 0)) ∧ Below W.heap.size W w') := by
    intro W
    refine (new_yes 1 9 9 5 0 ⟨by decide, by decide, by decide, by decide, by decide⟩ W).mono ?_
    rintro e w' ⟨⟨g, rfl, ht⟩, hb⟩
    exact ⟨⟨g, rfl, ht⟩, hb⟩
  have AL : Hid (∀ W, Calls Try.prog 16 #[] W fun e w' => e = .returned (.agg (cv m0 m0)) ∧ Below W.heap.size W w') := all0
  have SP : Hid (∀ W, Calls Try.prog 15 #[.agg (cv m0 m0), .int .i64 0] W fun e w' => e = .returned (.tuple #[.agg (cv m0 m128), .agg (cv m128 m128), .int .i64 0]) ∧ Below W.heap.size W w') := awT5
  have L1 : Hid (∀ B g W v1 v2 v3, TabV B W g awR S0 v1 v2 v3 → Calls Try.prog 5 #[.pointer (some ⟨g, 0, none⟩), .int .i64 0, .int .i64 1, .agg (cv m0 m128), .int .i64 3] W fun r w' => r = .returned (.tuple #[.agg (slotV zeroS), .bool false, .int .i64 0]) ∧ TabTo B W w' g awR S1 v1 v2 v3) := awLearn1
  have L2 : Hid (∀ B g W v1 v2 v3, TabV B W g awR S1 v1 v2 v3 → Calls Try.prog 5 #[.pointer (some ⟨g, 0, none⟩), .int .i64 1, .int .i64 1, .agg (cv m128 m128), .int .i64 4] W fun r w' => r = .returned (.tuple #[.agg (slotV aw1), .bool true, .int .i64 0]) ∧ TabTo B W w' g awR S2 v1 v2 v3) := awLearn2
  have PE : Hid (∀ B g W v1 v2 v3, TabV B W g awR S2 v1 v2 v3 → Calls Try.prog 7 #[.pointer (some ⟨g, 0, none⟩), .int .i64 1, .agg (hv m128)] W fun r w' => r = .returned (.tuple #[.agg (slotV aw2), .bool true]) ∧ Below W.heap.size W w') := awPeek
  have TI : Hid (∀ B g W v1 v2 v3, TabV B W g awR S2 v1 v2 v3 → Calls Try.prog 11 #[.pointer (some ⟨g, 0, none⟩), .int .i64 6] W fun r w' => (∃ o c, r = .returned (.slice o 1 c)) ∧ TabTo B W w' g awR S0 v1 v2 v3) := awTick
  have CO : Hid (∀ B g W v1 v2 v3, TabV B W g awR S0 v1 v2 v3 → Calls Try.prog 12 #[.pointer (some ⟨g, 0, none⟩), .int .i64 1] W fun r w' => r = .returned (.int .i64 0) ∧ w' = W) := awCount
  go_enter Try.func4, Try.ntmps4
  go_wp2_with (go_at_call 14; refine (NW.out _).mono ?_; rintro r w1 ⟨⟨g, rfl, hT1⟩, hb1⟩; refine of_stopS ?_)
  unfold StopS
  have T1 : Hid (TabV w.heap.size w1 g awR S0 (.slice none 0 0) (.slice none 0 0) (.slice none 0 0)) := hT1
  have B1 : Hid (Below w.heap.size w w1) := hb1
  clear hT1 hb1
  go_wp2_with (first | (go_at_call 16; refine (AL.out _).mono ?_; rintro r w2 ⟨rfl, hb2⟩) | (go_at_call 15; refine (SP.out _).mono ?_; rintro r w3 ⟨rfl, hb3⟩; refine of_stopS ?_))
  unfold StopS
  have B3' : Hid (Below w1.heap.size w1 w3) := below_step hb2 hb2.size hb3
  have T3 : Hid (TabV w.heap.size w3 g awR S0 (.slice none 0 0) (.slice none 0 0) (.slice none 0 0)) := T1.out.below B3'.out
  have B3 : Hid (Below w.heap.size w w3) := below_step B1.out B1.out.size B3'.out
  clear hb2 hb3 T1 B1 B3'
  go_wp2_with (first | ((with_reducible refine wl_gSC _ _ rfl ?_); refine of_stopS ?_))
  unfold StopS
  obtain ⟨w4, hw4⟩ : ∃ w4, ((w3.alloc (.cells zeroC 25)).alloc (.cells zeroC 25)).setRow w3.heap.size (cv m0 m128) = w4 := ⟨_, rfl⟩
  have A4 : Hid (w4.heap[w3.heap.size]? = some (.cells (cv m0 m128) 25 (0, 0))) := by show _ = _; rw [← hw4]; exact setRow_heap _ _ _ _ _ _ (heap_past _ _ _ _ (heap_new _ _ _ rfl))
  have A4' : Hid (w4.heap[w3.heap.size + 1]? = some (.cells zeroC 25 (0, 0))) := by show _ = _; rw [← hw4]; exact (setRow_other _ _ _ _ (by omega)).trans (heap_new _ _ _ (by simp))
  have B4 : Hid (Below w3.heap.size w3 w4) := by show Below _ _ _; rw [← hw4]; exact below_setRow (((Below.refl _ _).alloc (Nat.le_refl _) _).alloc (by simp) _) (Nat.le_refl _) _
  refine wl_storeC rfl _ _ rfl w3.heap.size m0 m128 rfl rfl _ (heap_past _ _ _ _ (heap_new _ _ _ rfl)) rfl rfl rfl w4 hw4 ?_
  clear hw4
  obtain ⟨w5, hw5⟩ : ∃ w5, w4.setRow (w3.heap.size + 1) (cv m128 m128) = w5 := ⟨_, rfl⟩
  have A5 : Hid (w5.heap[w3.heap.size]? = some (.cells (cv m0 m128) 25 (0, 0))) := by show _ = _; rw [← hw5]; exact (setRow_other _ _ _ _ (by omega)).trans A4.out
  have C5 : Hid (w5.heap[w3.heap.size + 1]? = some (.cells (cv m128 m128) 25 (0, 0))) := by show _ = _; rw [← hw5]; exact setRow_heap _ _ _ _ _ _ A4'.out
  have B5' : Hid (Below w3.heap.size w3 w5) := by show Below _ _ _; rw [← hw5]; exact below_setRow B4.out (by omega) _
  go_wp2_with (first | ((with_reducible refine wl_gSC _ _ rfl ?_); refine wl_storeC rfl _ _ rfl (w3.heap.size + 1) m128 m128 rfl rfl _ A4'.out rfl rfl rfl w5 hw5 ?_; refine of_stopS ?_))
  unfold StopS
  have T5 : Hid (TabV w.heap.size w5 g awR S0 (.slice none 0 0) (.slice none 0 0) (.slice none 0 0)) := T3.out.below B5'.out
  have B5 : Hid (Below w.heap.size w w5) := below_step B3.out B3.out.size B5'.out
  have N3 : Hid (w.heap.size ≤ w3.heap.size) := B3.out.size
  clear hw5 A4 A4' B4 B5' T3
  have hl1 := L1.out _ g w5 _ _ _ T5.out
  go_wp2_with (first | ((with_reducible refine wl_gC _ rfl ?_); refine wl_loadCg rfl _ rfl w3.heap.size rfl m0 m128 A5.out rfl rfl ?_) | (go_at_call 5; refine hl1.mono ?_; rintro r w6 ⟨rfl, h6⟩; refine of_stopS ?_))
  unfold StopS
  have B6 : Hid (Below w.heap.size w w6) := B5.out.trans (TabTo.belowB T5.out h6)
  obtain ⟨p1, p2, p3, h61, h62, h63⟩ := h6
  have T6 : Hid (TabV w.heap.size w6 g awR S1 p1 p2 p3) := h61
  have C6 : Hid (w6.heap[w3.heap.size + 1]? = some (.cells (cv m128 m128) 25 (0, 0))) := h62.heap C5.out (T5.out.boxes C5.out (by decide) (by decide))
  clear h61 h62 h63 hl1 A5 C5 T5 B5
  have hl2 := L2.out _ g w6 _ _ _ T6.out
  go_wp2_with (first | ((with_reducible refine wl_gC _ rfl ?_); refine wl_loadCg rfl _ rfl (w3.heap.size + 1) rfl m128 m128 C6.out rfl rfl ?_) | (go_at_call 5; refine hl2.mono ?_; rintro r w7 ⟨rfl, h7⟩; refine of_stopS ?_))
  unfold StopS
  have B7 : Hid (Below w.heap.size w w7) := B6.out.trans (TabTo.belowB T6.out h7)
  obtain ⟨q1, q2, q3, h71, h72, h73⟩ := h7
  have T7 : Hid (TabV w.heap.size w7 g awR S2 q1 q2 q3) := h71
  clear h71 h72 h73 hl2 C6 T6 B6
  obtain ⟨w8, hw8⟩ : ∃ w8, w8 = w7.alloc (.cells (slotV aw1) 27) := ⟨_, rfl⟩
  have X8 : Hid (w8.heap[w7.heap.size]? = some (.cells (slotV aw1) 27 (0, 0))) := by show _ = _; rw [hw8]; exact heap_new _ _ _ rfl
  have B8' : Hid (Below w7.heap.size w7 w8) := by show Below _ _ _; rw [hw8]; exact (Below.refl _ _).alloc (Nat.le_refl _) _
  have T8 : Hid (TabV w.heap.size w8 g awR S2 q1 q2 q3) := T7.out.below B8'.out
  have B8 : Hid (Below w.heap.size w w8) := below_step B7.out B7.out.size B8'.out
  have N8 : Hid (w7.heap.size < w8.heap.size) := (Array.getElem?_eq_some_iff.1 X8.out).1
  have hpe := PE.out _ g w8 _ _ _ T8.out
  go_wp2_with (first | ((with_reducible refine wl_gA rfl ?_); refine wl_allocS rfl rfl ?_; try rw [sz_alloc]) | ((with_reducible refine wl_gS _ _ rfl ?_); refine wl_storeS rfl _ _ rfl w7.heap.size aw1 zeroS rfl rfl (heap_new _ _ _ rfl) _ (setRow_new _ _ _ _ _ rfl) ?_); refine of_stopS ?_)
  unfold StopS
  rw [← hw8]
  clear hw8
  go_wp2_with (first | (go_at_call 7; refine hpe.mono ?_; rintro r w9 ⟨rfl, hb9⟩; refine of_stopS ?_))
  unfold StopS
  have X9 : Hid (w9.heap[w7.heap.size]? = some (.cells (slotV aw1) 27 (0, 0))) := (hb9.block _ N8.out).trans X8.out
  have T9 : Hid (TabV w.heap.size w9 g awR S2 q1 q2 q3) := T8.out.below hb9
  have B9 : Hid (Below w.heap.size w w9) := below_step B8.out B8.out.size hb9
  have FX : Hid (¬ footT g q1 q2 q3 w7.heap.size) := by intro hf; have := (T7.out.foot_in _ hf).2; omega
  have FY : Hid (¬ footT g q1 q2 q3 w9.heap.size) := by intro hf; have := (T9.out.foot_in _ hf).2; omega
  clear hb9 hpe X8 T8 B8 B8' N8 T7 B7 B3 N3
  obtain ⟨w10, hw10⟩ : ∃ w10, w10 = w9.alloc (.cells (slotV aw2) 27) := ⟨_, rfl⟩
  have N9 : Hid (w7.heap.size < w9.heap.size) := (Array.getElem?_eq_some_iff.1 X9.out).1
  have X10 : Hid (w10.heap[w7.heap.size]? = some (.cells (slotV aw1) 27 (0, 0))) := by show _ = _; rw [hw10]; exact heap_past _ _ _ _ X9.out
  have Y10 : Hid (w10.heap[w9.heap.size]? = some (.cells (slotV aw2) 27 (0, 0))) := by show _ = _; rw [hw10]; exact heap_new _ _ _ rfl
  have B10' : Hid (Below w9.heap.size w9 w10) := by show Below _ _ _; rw [hw10]; exact (Below.refl _ _).alloc (Nat.le_refl _) _
  have T10 : Hid (TabV w.heap.size w10 g awR S2 q1 q2 q3) := T9.out.below B10'.out
  have B10 : Hid (Below w.heap.size w w10) := below_step B9.out B9.out.size B10'.out
  have hti := TI.out _ g w10 _ _ _ T10.out
  go_wp2_with (first | ((with_reducible refine wl_gA rfl ?_); refine wl_allocS rfl rfl ?_; try rw [sz_alloc]) | ((with_reducible refine wl_gS _ _ rfl ?_); refine wl_storeS rfl _ _ rfl w9.heap.size aw2 zeroS rfl rfl (heap_new _ _ _ rfl) _ (setRow_new _ _ _ _ _ rfl) ?_); refine of_stopS ?_)
  unfold StopS
  rw [← hw10]
  clear hw10
  go_wp2_with (first | (go_at_call 11; refine hti.mono ?_; rintro r w11 ⟨⟨o, c, rfl⟩, h11⟩; refine of_stopS ?_))
  unfold StopS
  have B11 : Hid (Below w.heap.size w w11) := B10.out.trans (TabTo.belowB T10.out h11)
  obtain ⟨p1, p2, p3, h61, h62, h63⟩ := h11
  have T11 : Hid (TabV w.heap.size w11 g awR S0 p1 p2 p3) := h61
  have X11 : Hid (w11.heap[w7.heap.size]? = some (.cells (slotV aw1) 27 (0, 0))) := h62.heap X10.out FX.out
  have Y11 : Hid (w11.heap[w9.heap.size]? = some (.cells (slotV aw2) 27 (0, 0))) := h62.heap Y10.out FY.out
  clear h61 h62 h63 hti X9 T9 B9 N9 X10 Y10 B10' T10 B10
  have hx : w11.cell? ⟨w7.heap.size, 30, none⟩ = some (.int .i64 3) := by rw [cell_of_row _ _ _ _ _ _ X11.out]; rfl
  have hy : w11.cell? ⟨w9.heap.size, 30, none⟩ = some (.int .i64 4) := by rw [cell_of_row _ _ _ _ _ _ Y11.out]; rfl
  have hco := CO.out _ g w11 _ _ _ T11.out
  go_wp2_with (first | (go_at_call 12; refine hco.mono ?_; rintro r w12 ⟨rfl, hw12⟩; subst hw12))
  go_ret
  exact ⟨rfl, B11.out⟩
end Go.Proofs.Ytojhckjdkafpmab
namespace Go.Proofs.Ytojhckjdkafpmab
open Go Go.RowKit
set_option maxRecDepth 20000

/-- A call in memory. -/
def actV (x : ActM) : Array Value := #[.int .i64 x.kind, .int .i64 x.now] ++ slotV x.slot ++ hv x.head
theorem actV_slot (x : ActM) (j : Nat) (hj : j < 36) : (actV x)[2 + j]? = (slotV x.slot)[j]? := by
  unfold actV
  rw [Array.getElem?_append_left (by simp only [Array.size_append, slotV_size]; simp; omega), Array.getElem?_append_right (by simp)]
  simp
theorem actV_lo (x : ActM) (j : Nat) (hj : j < 2) : (actV x)[j]? = #[Value.int .i64 x.kind, .int .i64 x.now][j]? := by
  unfold actV
  rw [Array.getElem?_append_left (by simp only [Array.size_append, slotV_size]; simp; omega), Array.getElem?_append_left (by simpa using hj)]
theorem actV_cube (x : ActM) (j : Nat) (hj : j < 26) : (actV x)[6 + j]? = (cv (pad x.slot.cube.1) (pad x.slot.cube.2))[j]? := by
  rw [show 6 + j = 2 + (4 + j) by omega, actV_slot x (4 + j) (by omega), slotV_cube x.slot j hj]
theorem actV_head (x : ActM) (j : Nat) : (actV x)[38 + j]? = (hv x.head)[j]? := by
  unfold actV
  rw [Array.getElem?_append_right (by simp only [Array.size_append, slotV_size]; simp)]
  simp only [Array.size_append, slotV_size]
  congr 1
  simp
/-- A header is loaded out of a row. -/
theorem hdr_load {w : World} {g off : Nat} {cur : Array Value} {t : TypeId} {fr : Nat × Nat} {H : List Int} (hH : H.length = 13) (hg : w.heap[g]? = some (.cells cur t fr)) (hc : ∀ j, cur[off + j]? = (hv H)[j]?) :
    (loadVar 23 ⟨g, off, none⟩).run Try.prog w = .ok (.agg (hv H)) w := by
  have hs : (hv H).size = 13 := by rw [hv_size, hH]
  have hl : (loadCells ⟨g, off, none⟩ (hv H).toList.length).run Try.prog w = .ok (hv H).toList.toArray w :=
    run_loadCells_list (P := Try.prog) w ⟨g, off, none⟩ (hv H).toList (fun j v hv' => by
      have hadd : (⟨g, off, none⟩ : Addr).add j = ⟨g, off + j, none⟩ := by unfold Addr.add; split <;> simp_all
      rw [hadd, cell_of_row w g (off + j) cur t fr hg, hc j]
      simpa using hv')
  have hz : ∀ w, (sizeOf 23).run Try.prog w = .ok 13 w := fun w => by kernel_rfl
  have ha : ∀ w, (isAgg 23).run Try.prog w = .ok true w := fun w => by kernel_rfl
  rw [Array.length_toList, hs, Array.toArray_toList] at hl
  simp [loadVar, Sem.run_bind, ha, hz, hl]
theorem wl_loadHw {ops : Array Oper} {rest : List Oper} {o : Oper} {a : Act} {w : World} {Q : Exit → Act → World → Prop} (hw : Region.wanted o (yielded ops a.tmps) = true) (x : Operand) (ho : o.op = .load 23 x)
    (g off : Nat) (hx : a.eval x = .pointer (some ⟨g, off, none⟩)) (H : List Int) (hl : (loadVar 23 ⟨g, off, none⟩).run Try.prog w = .ok (.agg (hv H)) w)
    (h : wpList Try.prog ops Q rest (a.put o.dst (.agg (hv H))) w) : wpList Try.prog ops Q (o :: rest) a w := by
  refine wpList_step fun K hK => ?_
  rw [if_pos hw]
  unfold Oper.wp execOp
  simp only [ho, hx, Instr.loadAt, Instr.sureAddr, Sem.run_bind, Sem.run_pure, Result.andThen_ok, hl]
  exact hK _ _ h
/-- What is read of a call. -/
structure ActF (w : World) (p : Nat) (x : ActM) : Prop where
  c0 : w.cell? ⟨p, 0, none⟩ = some (.int .i64 x.kind)
  c1 : w.cell? ⟨p, 1, none⟩ = some (.int .i64 x.now)
  c3 : w.cell? ⟨p, 3, none⟩ = some (.int .i64 x.slot.epoch)
  c4 : w.cell? ⟨p, 4, none⟩ = some (.int .i64 x.slot.place)
  c32 : w.cell? ⟨p, 32, none⟩ = some (.int .i64 x.slot.action)
theorem actf_of {w : World} {p : Nat} {x : ActM} {t : TypeId} {fr : Nat × Nat} (h : w.heap[p]? = some (.cells (actV x) t fr)) : ActF w p x := by
  have hs : SlF w p 2 x.slot := slf_of h fun j hj => actV_slot x j hj
  exact ⟨by rw [cell_of_row _ _ _ _ _ _ h, actV_lo x 0 (by decide)]; rfl, by rw [cell_of_row _ _ _ _ _ _ h, actV_lo x 1 (by decide)]; rfl, hs.c1, hs.c2, hs.c30⟩
theorem act_slot {w : World} {p : Nat} {x : ActM} {t : TypeId} {fr : Nat × Nat} (h : w.heap[p]? = some (.cells (actV x) t fr)) : (loadVar 27 ⟨p, 2, none⟩).run Try.prog w = .ok (.agg (slotV x.slot)) w := ld_row h fun j hj => actV_slot x j hj
theorem act_head {w : World} {p : Nat} {x : ActM} {t : TypeId} {fr : Nat × Nat} (hH : x.head.length = 13) (h : w.heap[p]? = some (.cells (actV x) t fr)) : (loadVar 23 ⟨p, 38, none⟩).run Try.prog w = .ok (.agg (hv x.head)) w := hdr_load hH h fun j => actV_head x j
def OkA (x : ActM) : Prop := OkC x.slot.cube ∧ Byt x.head
end Go.Proofs.Ytojhckjdkafpmab
namespace Go.Proofs.Ytojhckjdkafpmab
open Go.ChangeShapes Go.WideShapes Go.ChangeAt Go.WideMaps Go.WideElems Go.RowKit
set_option maxRecDepth 20000

theorem take_one11 {cs : List Value} {i : Nat} {v : Value} (h : (cs.drop i).take 1 = [v]) : cs[i]? = some v := by
  have := congrArg List.head? h
  rw [List.head?_take, if_neg (by decide), List.head?_drop] at this
  simpa using this
theorem field_int11 {P : Program} {H : Type} {enc : TypeId × Value → H} {W : World} {base : Nat} {spare : Nat → Bool} {held : Bool} {n : Nat} {t : TypeId} {cs : List Value} {y : Option (DataW H × List MemPlace)} {i : Nat} {k : IntKind} (ht : P.underlying t = some (.int k)) (hc : P.cellsOf t = 1)
    (h : DataW.trod enc P W base spare held n t ((cs.drop i).take (P.cellsOf t)) = y) (hy : y.isSome = true) : ∃ z : Int, cs[i]? = some (.int k z) := by
  obtain ⟨y', rfl⟩ := Option.isSome_iff_exists.1 hy
  obtain ⟨z, h1, _, h3⟩ := DataW.trod_int ht h
  rw [hc] at h1
  exact ⟨z, take_one11 h1⟩
theorem xs_some11 {α : Type} {xs : List α} {n i : Nat} (h : xs.length = n) (hi : i < n) : (xs[i]?).isSome = true := by
  rw [List.getElem?_eq_getElem (by omega)]; rfl
theorem cube_of11 {H : Type} {enc : TypeId × Value → H} {W : World} {base : Nat} {spare : Nat → Bool} {held : Bool} {fuel : Nat} {cs : List Value} {x : DataW H × List MemPlace} (hl : cs.length = 26)
    (h : DataW.trod enc Try.prog W base spare held fuel 25 cs = some x) : ∃ V M : List Int, cs = (cv V M).toList ∧ Byt V ∧ Byt M := by
  have c13 : Try.prog.cellsOf 23 = 13 := by kernel_rfl
  obtain ⟨y0, y1, k, hy, _, t0, t1⟩ := trod_struct2 Try.underlying25 h
  rw [c13] at t0 t1
  obtain ⟨V, hV, bV⟩ := bytes_of (by simp; omega) t0
  obtain ⟨M, hM, bM⟩ := bytes_of (by simp; omega) t1
  refine ⟨V, M, ?_, bV, bM⟩
  unfold cv hv
  rw [List.map_append, ← hV, ← hM]
  simp only [List.drop_zero]
  rw [List.take_of_length_le (l := List.drop 13 cs) (by simp; omega), List.take_append_drop]
theorem part_at {cs l : List Value} {a n : Nat} (h : (cs.drop a).take n = l) (j : Nat) (hj : j < n) : cs[a + j]? = l[j]? := by
  rw [← h, List.getElem?_take_of_lt hj, List.getElem?_drop]
theorem slot_of {H : Type} {enc : TypeId × Value → H} {W : World} {base : Nat} {spare : Nat → Bool} {held : Bool} {fuel : Nat} {cs : List Value} {x : DataW H × List MemPlace} (hl : cs.length = 36)
    (h : DataW.trod enc Try.prog W base spare held fuel 27 cs = some x) : ∃ s : Slt, cs = (slotV s).toList ∧ OkC s.cube := by
  have c3 : Try.prog.cellsOf 3 = 1 := by kernel_rfl
  have c26 : Try.prog.cellsOf 25 = 26 := by kernel_rfl
  obtain ⟨xs, n, _, _, _, hxl, hf⟩ := DataW.trod_struct Try.underlying27 h
  obtain ⟨n0, h0⟩ := field_int11 Try.underlying3 c3 (hf 0 _ rfl) (xs_some11 hxl (by decide))
  obtain ⟨n1, h1⟩ := field_int11 Try.underlying3 c3 (hf 1 _ rfl) (xs_some11 hxl (by decide))
  obtain ⟨n2, h2⟩ := field_int11 Try.underlying3 c3 (hf 2 _ rfl) (xs_some11 hxl (by decide))
  obtain ⟨n3, h3⟩ := field_int11 Try.underlying3 c3 (hf 3 _ rfl) (xs_some11 hxl (by decide))
  obtain ⟨n5, h5⟩ := field_int11 Try.underlying3 c3 (hf 5 _ rfl) (xs_some11 hxl (by decide))
  obtain ⟨n6, h6⟩ := field_int11 Try.underlying3 c3 (hf 6 _ rfl) (xs_some11 hxl (by decide))
  obtain ⟨n7, h7⟩ := field_int11 Try.underlying3 c3 (hf 7 _ rfl) (xs_some11 hxl (by decide))
  obtain ⟨n8, h8⟩ := field_int11 Try.underlying3 c3 (hf 8 _ rfl) (xs_some11 hxl (by decide))
  obtain ⟨n9, h9⟩ := field_int11 Try.underlying3 c3 (hf 9 _ rfl) (xs_some11 hxl (by decide))
  obtain ⟨n10, h10⟩ := field_int11 Try.underlying3 c3 (hf 10 _ rfl) (xs_some11 hxl (by decide))
  have h4 : DataW.trod enc Try.prog W base spare held n 25 ((cs.drop 4).take (Try.prog.cellsOf 25)) = xs[4]? := hf 4 _ rfl
  obtain ⟨y, hy⟩ := Option.isSome_iff_exists.1 (xs_some11 hxl (show 4 < 11 by decide))
  rw [hy, c26] at h4
  obtain ⟨V, M, hVM, bV, bM⟩ := cube_of11 (by simp; omega) h4
  refine ⟨⟨n0, n1, n2, n3, (V, M), n5, n6, n7, n8, n9, n10⟩, ?_, bV, bM⟩
  apply List.ext_getElem?
  intro k
  refine Eq.trans ?_ (Array.getElem?_toList).symm
  rcases (show k < 4 ∨ (4 ≤ k ∧ k < 30) ∨ (30 ≤ k ∧ k < 36) ∨ 36 ≤ k by omega) with hk | ⟨k1, k2⟩ | ⟨k1, k2⟩ | hk
  · rw [slotV_lo _ k hk]
    rcases (show k = 0 ∨ k = 1 ∨ k = 2 ∨ k = 3 by omega) with rfl | rfl | rfl | rfl
    · exact h0
    · exact h1
    · exact h2
    · exact h3
  · obtain ⟨j, rfl⟩ : ∃ j, k = 4 + j := ⟨k - 4, by omega⟩
    rw [slotV_cube _ j (by omega), part_at hVM j (by omega)]
    refine Eq.trans Array.getElem?_toList ?_
    simp only [pad_id bV.1, pad_id bM.1]
  · obtain ⟨j, rfl⟩ : ∃ j, k = 30 + j := ⟨k - 30, by omega⟩
    rw [slotV_hi _ j]
    rcases (show j = 0 ∨ j = 1 ∨ j = 2 ∨ j = 3 ∨ j = 4 ∨ j = 5 by omega) with rfl | rfl | rfl | rfl | rfl | rfl
    · exact h5
    · exact h6
    · exact h7
    · exact h8
    · exact h9
    · exact h10
  · rw [List.getElem?_eq_none (by omega), Array.getElem?_eq_none (by rw [slotV_size]; omega)]
theorem actV_size11 {x : ActM} (h : x.head.length = 13) : (actV x).size = 51 := by
  unfold actV
  simp only [Array.size_append, slotV_size, hv_size, h]
  rfl
theorem act_of {H : Type} {enc : TypeId × Value → H} {W : World} {base : Nat} {spare : Nat → Bool} {held : Bool} (fuel : Nat) (cs : List Value) (x : DataW H × List MemPlace) (hl : cs.length = 51)
    (h : DataW.trod enc Try.prog W base spare held fuel 29 cs = some x) : ∃ r : { r : ActM // OkA r }, cs = (actV r.1).toList ∧ True := by
  have c3 : Try.prog.cellsOf 3 = 1 := by kernel_rfl
  have c36 : Try.prog.cellsOf 27 = 36 := by kernel_rfl
  have c13 : Try.prog.cellsOf 23 = 13 := by kernel_rfl
  obtain ⟨xs, n, _, _, _, hxl, hf⟩ := DataW.trod_struct Try.underlying29 h
  obtain ⟨n0, h0⟩ := field_int11 Try.underlying3 c3 (hf 0 _ rfl) (xs_some11 hxl (by decide))
  obtain ⟨n1, h1⟩ := field_int11 Try.underlying3 c3 (hf 1 _ rfl) (xs_some11 hxl (by decide))
  have h2 : DataW.trod enc Try.prog W base spare held n 27 ((cs.drop 2).take (Try.prog.cellsOf 27)) = xs[2]? := hf 2 _ rfl
  obtain ⟨y, hy⟩ := Option.isSome_iff_exists.1 (xs_some11 hxl (show 2 < 4 by decide))
  rw [hy, c36] at h2
  obtain ⟨s, hs, bs⟩ := slot_of (by simp; omega) h2
  have h3 : DataW.trod enc Try.prog W base spare held n 23 ((cs.drop 38).take (Try.prog.cellsOf 23)) = xs[3]? := hf 3 _ rfl
  obtain ⟨z, hz⟩ := Option.isSome_iff_exists.1 (xs_some11 hxl (show 3 < 4 by decide))
  rw [hz, c13] at h3
  obtain ⟨L, hL, bL⟩ := bytes_of (by simp; omega) h3
  refine ⟨⟨⟨n0, n1, s, L⟩, bs, bL⟩, ?_, trivial⟩
  apply List.ext_getElem?
  intro k
  refine Eq.trans ?_ (Array.getElem?_toList).symm
  rcases (show k < 2 ∨ (2 ≤ k ∧ k < 38) ∨ (38 ≤ k ∧ k < 51) ∨ 51 ≤ k by omega) with hk | ⟨k1, k2⟩ | ⟨k1, k2⟩ | hk
  · rw [actV_lo _ k hk]
    rcases (show k = 0 ∨ k = 1 by omega) with rfl | rfl
    · exact h0
    · exact h1
  · obtain ⟨j, rfl⟩ : ∃ j, k = 2 + j := ⟨k - 2, by omega⟩
    rw [actV_slot _ j (by omega), part_at hs j (by omega)]
    exact Array.getElem?_toList
  · obtain ⟨j, rfl⟩ : ∃ j, k = 38 + j := ⟨k - 38, by omega⟩
    rw [actV_head _ j, part_at hL j (by omega)]
    unfold hv
    simp
  · rw [List.getElem?_eq_none (by omega), Array.getElem?_eq_none (by rw [actV_size11 bL.1]; omega)]
theorem open_act {H : Type} {enc : TypeId × Value → H} {W : World} {r : Reach} {b0 base : Nat} {spare : Nat → Bool} {held : Bool} {v : Value} {d : DataW H} {p : List MemPlace}
    (hok : Value.okWide Try.prog W r b0 29 v) (h : DataW.Trod enc Try.prog W base spare held 29 v d p) : ∃ x : ActM, v = .agg (actV x) ∧ OkA x := by
  have c51 : Try.prog.cellsOf 29 = 51 := by kernel_rfl
  simp only [Value.okWide, Try.underlying29] at hok
  obtain ⟨cs, rfl, hsz, _⟩ := hok
  rw [c51] at hsz
  obtain ⟨fuel, hf⟩ := h
  simp only [Value.cells] at hf
  obtain ⟨r, hr, _⟩ := act_of fuel cs.toList _ (by simpa using hsz) hf
  refine ⟨r.1, ?_, r.2⟩
  congr 1
  exact Array.ext' hr
end Go.Proofs.Ytojhckjdkafpmab
namespace Go.Proofs.Ytojhckjdkafpmab
open Go Go.RowKit
set_option maxRecDepth 20000

/-! A table that is not there. -/
theorem nfind (e : Int) (H : List Int) (w : World) : Calls Try.prog 22 #[.pointer none, .int .i64 e, .agg (hv H)] w fun r w' => r = .returned (.pointer none) ∧ Below w.heap.size w w' := by
  go_enter Try.func22, Try.ntmps22
  go_wp2_with fail
  go_ret
  exact ⟨rfl, (Below.refl _ _).alloc (Nat.le_refl _) _⟩
theorem ncount (k : Int) (w : World) : Calls Try.prog 12 #[.pointer none, .int .i64 k] w fun r w' => r = .returned (.int .i64 0) ∧ Below w.heap.size w w' := by
  go_enter Try.func12, Try.ntmps12
  go_wp2_with fail
  go_ret
  exact ⟨rfl, Below.refl _ _⟩
theorem nslots (k : Int) (w : World) : Calls Try.prog 13 #[.pointer none, .int .i64 k] w fun r w' => r = .returned (.slice none 0 0) ∧ Below w.heap.size w w' := by
  go_enter Try.func13, Try.ntmps13
  go_wp2_with fail
  go_ret
  exact ⟨rfl, Below.refl _ _⟩
theorem nrules (e : Int) (w : World) : Calls Try.prog 9 #[.pointer none, .int .i64 e] w fun r w' => r = .returned (.slice none 0 0) ∧ Below w.heap.size w w' := by
  go_enter Try.func9, Try.ntmps9
  go_wp2_with fail
  go_ret
  exact ⟨rfl, Below.refl _ _⟩
theorem nkeep (a b : Int) (w : World) : Calls Try.prog 10 #[.pointer none, .int .i64 a, .int .i64 b] w fun r w' => r = .returned (.int .i64 0) ∧ Below w.heap.size w w' := by
  go_enter Try.func10, Try.ntmps10
  go_wp2_with fail
  go_ret
  exact ⟨rfl, ((Below.refl _ _).alloc (Nat.le_refl _) _).alloc (by simp) _⟩
theorem ntick (n : Int) (w : World) : Calls Try.prog 11 #[.pointer none, .int .i64 n] w fun r w' => r = .returned (.slice none 0 0) ∧ Below w.heap.size w w' := by
  go_enter Try.func11, Try.ntmps11
  go_wp2_with fail
  go_ret
  exact ⟨rfl, ((Below.refl _ _).alloc (Nat.le_refl _) _).alloc (by simp) _⟩
theorem nlay (s : Slt) (w : World) : Calls Try.prog 8 #[.pointer none, .agg (slotV s)] w fun r w' => r = .returned (.int .i64 2) ∧ Below w.heap.size w w' := by
  go_enter Try.func8, Try.ntmps8
  go_wp2_with fail
  go_ret
  exact ⟨rfl, (Below.refl _ _).alloc (Nat.le_refl _) _⟩
set_option maxHeartbeats 4000000 in
theorem nlearn (now e : Int) (c : Cub) (act : Int) (w : World) : Calls Try.prog 5 #[.pointer none, .int .i64 now, .int .i64 e, .agg (cv (pad c.1) (pad c.2)), .int .i64 act] w fun r w' => r = .returned (.tuple #[.agg (slotV zeroS), .bool false, .int .i64 2]) ∧ Below w.heap.size w w' := by
  obtain ⟨w0, hw0⟩ : ∃ w0, w0 = ((w.alloc (.cells #[.int .i64 e] 3)).alloc (.cells (cv (pad c.1) (pad c.2)) 25)).alloc (.cells (slotV zeroS) 27) := ⟨_, rfl⟩
  have B0 : Hid (Below w.heap.size w w0) := by show Below _ _ _; rw [hw0]; exact (((Below.refl _ _).alloc (Nat.le_refl _) _).alloc (by simp) _).alloc (by simp; omega) _
  have Z0 : Hid (w0.heap[w.heap.size + 1 + 1]? = some (.cells (slotV zeroS) 27 (0, 0))) := by show _ = _; rw [hw0]; exact heap_new _ _ _ (by simp)
  go_enter Try.func5, Try.ntmps5
  go_wp2_with (first | ((with_reducible refine wl_gA rfl ?_); refine wl_allocS rfl rfl ?_; try rw [sz_alloc]); refine of_stopS ?_)
  unfold StopS
  rw [← hw0]
  clear hw0
  go_wp2_with (first | ((with_reducible refine wl_gZ rfl ?_); refine wl_buildS rfl rfl ?_) | ((with_reducible refine wl_gS _ _ rfl ?_); refine wl_storeS rfl _ _ rfl (w.heap.size + 1 + 1) zeroS zeroS rfl rfl Z0.out _ rfl ?_))
  refine ret3S (p := 10) (u := 11) (u' := 12) rfl rfl (w.heap.size + 1 + 1) rfl zeroS (setRow_heap _ _ _ _ _ _ Z0.out) _ _ rfl rfl ?_
  exact ⟨rfl, below_setRow B0.out (by omega) _⟩
set_option maxHeartbeats 4000000 in
theorem npeek (e : Int) (H : List Int) (hH : H.length = 13) (w : World) : Calls Try.prog 7 #[.pointer none, .int .i64 e, .agg (hv H)] w fun r w' => r = .returned (.tuple #[.agg (slotV zeroS), .bool false]) ∧ Below w.heap.size w w' := by
  have FI : Hid (∀ W, Calls Try.prog 22 #[.pointer none, .int .i64 e, .agg (hv H)] W fun r w' => r = .returned (.pointer none) ∧ Below W.heap.size W w') := nfind e H
  have B0 : Hid (Below w.heap.size w ((w.alloc (.cells (hv H) 23)).alloc (.cells (slotV zeroS) 27))) := ((Below.refl _ _).alloc (Nat.le_refl _) _).alloc (by simp) _
  have H0 : Hid (((w.alloc (.cells (hv H) 23)).alloc (.cells (slotV zeroS) 27)).heap[w.heap.size]? = some (.cells (hv H) 23 (0, 0))) := heap_past _ _ _ _ (heap_new _ _ _ rfl)
  have Z0 : Hid (((w.alloc (.cells (hv H) 23)).alloc (.cells (slotV zeroS) 27)).heap[w.heap.size + 1]? = some (.cells (slotV zeroS) 27 (0, 0))) := heap_new _ _ _ (by simp)
  go_enter Try.func7, Try.ntmps7
  go_wp2_with (first | ((with_reducible refine wl_gA rfl ?_); refine wl_allocS rfl rfl ?_; try rw [sz_alloc]) | ((with_reducible refine wl_gH _ rfl ?_); refine wl_loadHg rfl _ rfl w.heap.size rfl H H0.out hH ?_) | (go_at_call 22; refine (FI.out _).mono ?_; rintro r w1 ⟨rfl, hb1⟩; have B1 : Hid (Below w.heap.size w w1) := below_step B0.out B0.out.size hb1; have Z1 : Hid (w1.heap[w.heap.size + 1]? = some (.cells (slotV zeroS) 27 (0, 0))) := (hb1.block _ (by simp)).trans Z0.out; clear hb1; refine of_stopS ?_))
  unfold StopS
  go_wp2_with (first | ((with_reducible refine wl_gZ rfl ?_); refine wl_buildS rfl rfl ?_) | ((with_reducible refine wl_gS _ _ rfl ?_); refine wl_storeS rfl _ _ rfl (w.heap.size + 1) zeroS zeroS rfl rfl Z1.out _ rfl ?_))
  refine ret2S (p := 6) (q := 7) rfl rfl (w.heap.size + 1) rfl zeroS (setRow_heap _ _ _ _ _ _ Z1.out) _ rfl ?_
  exact ⟨rfl, below_setRow B1.out (by omega) _⟩
set_option maxHeartbeats 4000000 in
theorem nlook (now e : Int) (H : List Int) (hH : H.length = 13) (w : World) : Calls Try.prog 6 #[.pointer none, .int .i64 now, .int .i64 e, .agg (hv H)] w fun r w' => r = .returned (.tuple #[.agg (slotV zeroS), .bool false]) ∧ Below w.heap.size w w' := by
  have FI : Hid (∀ W, Calls Try.prog 22 #[.pointer none, .int .i64 e, .agg (hv H)] W fun r w' => r = .returned (.pointer none) ∧ Below W.heap.size W w') := nfind e H
  have B0 : Hid (Below w.heap.size w ((w.alloc (.cells (hv H) 23)).alloc (.cells (slotV zeroS) 27))) := ((Below.refl _ _).alloc (Nat.le_refl _) _).alloc (by simp) _
  have H0 : Hid (((w.alloc (.cells (hv H) 23)).alloc (.cells (slotV zeroS) 27)).heap[w.heap.size]? = some (.cells (hv H) 23 (0, 0))) := heap_past _ _ _ _ (heap_new _ _ _ rfl)
  have Z0 : Hid (((w.alloc (.cells (hv H) 23)).alloc (.cells (slotV zeroS) 27)).heap[w.heap.size + 1]? = some (.cells (slotV zeroS) 27 (0, 0))) := heap_new _ _ _ (by simp)
  go_enter Try.func6, Try.ntmps6
  go_wp2_with (first | ((with_reducible refine wl_gA rfl ?_); refine wl_allocS rfl rfl ?_; try rw [sz_alloc]) | ((with_reducible refine wl_gH _ rfl ?_); refine wl_loadHg rfl _ rfl w.heap.size rfl H H0.out hH ?_) | (go_at_call 22; refine (FI.out _).mono ?_; rintro r w1 ⟨rfl, hb1⟩; have B1 : Hid (Below w.heap.size w w1) := below_step B0.out B0.out.size hb1; have Z1 : Hid (w1.heap[w.heap.size + 1]? = some (.cells (slotV zeroS) 27 (0, 0))) := (hb1.block _ (by simp)).trans Z0.out; clear hb1; refine of_stopS ?_))
  unfold StopS
  go_wp2_with (first | ((with_reducible refine wl_gZ rfl ?_); refine wl_buildS rfl rfl ?_) | ((with_reducible refine wl_gS _ _ rfl ?_); refine wl_storeS rfl _ _ rfl (w.heap.size + 1) zeroS zeroS rfl rfl Z1.out _ rfl ?_))
  refine ret2S (p := 8) (q := 9) rfl rfl (w.heap.size + 1) rfl zeroS (setRow_heap _ _ _ _ _ _ Z1.out) _ rfl ?_
  exact ⟨rfl, below_setRow B1.out (by omega) _⟩
theorem wl_gH3 {P : Program} {ops : Array Oper} {Q : Exit → Act → World → Prop} {o : Oper} {rest : List Oper} {a : Act} {w : World} (x : Operand) (_ : o.op = .load 23 x) (h : wpList P ops Q (o :: rest) a w) : wpList P ops Q (o :: rest) a w := h
set_option maxHeartbeats 16000000 in
theorem lawNil (x : ActM) (hx : OkA x) (w : World) : Calls Try.prog 3 #[.agg (actV x)] w fun e w' => e = .returned (.bool true) ∧ Below w.heap.size w w' := by
  have AW : Hid (∀ W, Calls Try.prog 4 #[] W fun r w' => r = .returned (.bool true) ∧ Below W.heap.size W w') := awakeT_any
  have HHl : Hid (x.head.length = 13) := hx.2.1
  have NLE := nlearn x.now x.slot.epoch x.slot.cube x.slot.action
  have NLO := nlook x.now x.slot.epoch x.head hx.2.1
  have NPE := npeek x.slot.epoch x.head hx.2.1
  have NLA := nlay x.slot
  have NRU := nrules x.slot.epoch
  have NKE := nkeep x.slot.epoch x.slot.place
  have NTI := ntick x.now
  have NCO := ncount x.kind
  have NSL := nslots x.kind
  have NLE : Hid _ := NLE
  have NLO : Hid _ := NLO
  have NPE : Hid _ := NPE
  have NLA : Hid _ := NLA
  have NRU : Hid _ := NRU
  have NKE : Hid _ := NKE
  have NTI : Hid _ := NTI
  have NCO : Hid _ := NCO
  have NSL : Hid _ := NSL
  clear hx
  have A0 : Hid ((w.alloc (.cells (actV x) 29)).heap[w.heap.size]? = some (.cells (actV x) 29 (0, 0))) := heap_new _ _ _ rfl
  have B0 : Hid (Below w.heap.size w (w.alloc (.cells (actV x) 29))) := (Below.refl _ _).alloc (Nat.le_refl _) _
  have haw := AW.out (w.alloc (.cells (actV x) 29))
  go_enter Try.func3, Try.ntmps3
  go_wp2_with (go_at_call 4; refine haw.mono ?_; rintro e w1 ⟨rfl, hb1⟩; refine of_stopS ?_)
  unfold StopS
  have B1 : Hid (Below w.heap.size w w1) := below_step B0.out B0.out.size hb1
  have A1 : Hid (w1.heap[w.heap.size]? = some (.cells (actV x) 29 (0, 0))) := (hb1.block _ (Array.getElem?_eq_some_iff.1 A0.out).1).trans A0.out
  clear hb1
  clear haw AW
  have k1 := (actf_of A1.out).c1
  have k3 := (actf_of A1.out).c3
  have k32 := (actf_of A1.out).c32
  have hc := NLE.out w1
  go_wp2_with (first | ((with_reducible refine wl_gC _ rfl ?_); refine wl_loadCw rfl _ rfl w.heap.size 6 rfl _ _ _ (pad x.slot.cube.1) (pad x.slot.cube.2) (pad_len _) (pad_len _) A1.out (actV_cube x) ?_) | (go_at_call 5; refine hc.mono ?_; rintro e w2 ⟨rfl, hb2⟩; refine of_stopS ?_))
  unfold StopS
  clear hc k1 k3 k32
  have B2 : Hid (Below w.heap.size w w2) := below_step B1.out B1.out.size hb2
  have A2 : Hid (w2.heap[w.heap.size]? = some (.cells (actV x) 29 (0, 0))) := (hb2.block _ (Array.getElem?_eq_some_iff.1 A1.out).1).trans A1.out
  clear hb2
  obtain ⟨w3, hw3⟩ : ∃ w3, w3 = w2.alloc (.cells (slotV zeroS) 27) := ⟨_, rfl⟩
  have hb3 : Below w2.heap.size w2 w3 := by rw [hw3]; exact (Below.refl _ _).alloc (Nat.le_refl _) _
  have B3 : Hid (Below w.heap.size w w3) := below_step B2.out B2.out.size hb3
  have A3 : Hid (w3.heap[w.heap.size]? = some (.cells (actV x) 29 (0, 0))) := (hb3.block _ (Array.getElem?_eq_some_iff.1 A2.out).1).trans A2.out
  clear hb3
  go_wp2_with (first | ((with_reducible refine wl_gA rfl ?_); refine wl_allocS rfl rfl ?_; try rw [sz_alloc]) | ((with_reducible refine wl_gS _ _ rfl ?_); refine wl_storeS rfl _ _ rfl w2.heap.size zeroS zeroS rfl rfl (heap_new _ _ _ rfl) _ (setRow_new _ _ _ _ _ rfl) ?_); refine of_stopS ?_)
  unfold StopS
  rw [← hw3]
  clear hw3
  have k1 := (actf_of A3.out).c1
  have k3 := (actf_of A3.out).c3
  have hc := NLO.out w3
  go_wp2_with (first | ((with_reducible refine wl_gH3 _ rfl ?_); refine wl_loadHw rfl _ rfl w.heap.size 38 rfl x.head (act_head HHl.out A3.out) ?_) | (go_at_call 6; refine hc.mono ?_; rintro e w4 ⟨rfl, hb4⟩; refine of_stopS ?_))
  unfold StopS
  clear hc k1 k3
  have B4 : Hid (Below w.heap.size w w4) := below_step B3.out B3.out.size hb4
  have A4 : Hid (w4.heap[w.heap.size]? = some (.cells (actV x) 29 (0, 0))) := (hb4.block _ (Array.getElem?_eq_some_iff.1 A3.out).1).trans A3.out
  clear hb4
  obtain ⟨w5, hw5⟩ : ∃ w5, w5 = w4.alloc (.cells (slotV zeroS) 27) := ⟨_, rfl⟩
  have hb5 : Below w4.heap.size w4 w5 := by rw [hw5]; exact (Below.refl _ _).alloc (Nat.le_refl _) _
  have B5 : Hid (Below w.heap.size w w5) := below_step B4.out B4.out.size hb5
  have A5 : Hid (w5.heap[w.heap.size]? = some (.cells (actV x) 29 (0, 0))) := (hb5.block _ (Array.getElem?_eq_some_iff.1 A4.out).1).trans A4.out
  clear hb5
  go_wp2_with (first | ((with_reducible refine wl_gA rfl ?_); refine wl_allocS rfl rfl ?_; try rw [sz_alloc]) | ((with_reducible refine wl_gS _ _ rfl ?_); refine wl_storeS rfl _ _ rfl w4.heap.size zeroS zeroS rfl rfl (heap_new _ _ _ rfl) _ (setRow_new _ _ _ _ _ rfl) ?_); refine of_stopS ?_)
  unfold StopS
  rw [← hw5]
  clear hw5
  have k3 := (actf_of A5.out).c3
  have hc := NPE.out w5
  go_wp2_with (first | ((with_reducible refine wl_gH3 _ rfl ?_); refine wl_loadHw rfl _ rfl w.heap.size 38 rfl x.head (act_head HHl.out A5.out) ?_) | (go_at_call 7; refine hc.mono ?_; rintro e w6 ⟨rfl, hb6⟩; refine of_stopS ?_))
  unfold StopS
  clear hc k3
  have B6 : Hid (Below w.heap.size w w6) := below_step B5.out B5.out.size hb6
  have A6 : Hid (w6.heap[w.heap.size]? = some (.cells (actV x) 29 (0, 0))) := (hb6.block _ (Array.getElem?_eq_some_iff.1 A5.out).1).trans A5.out
  clear hb6
  obtain ⟨w7, hw7⟩ : ∃ w7, w7 = w6.alloc (.cells (slotV zeroS) 27) := ⟨_, rfl⟩
  have hb7 : Below w6.heap.size w6 w7 := by rw [hw7]; exact (Below.refl _ _).alloc (Nat.le_refl _) _
  have B7 : Hid (Below w.heap.size w w7) := below_step B6.out B6.out.size hb7
  have A7 : Hid (w7.heap[w.heap.size]? = some (.cells (actV x) 29 (0, 0))) := (hb7.block _ (Array.getElem?_eq_some_iff.1 A6.out).1).trans A6.out
  clear hb7
  go_wp2_with (first | ((with_reducible refine wl_gA rfl ?_); refine wl_allocS rfl rfl ?_; try rw [sz_alloc]) | ((with_reducible refine wl_gS _ _ rfl ?_); refine wl_storeS rfl _ _ rfl w6.heap.size zeroS zeroS rfl rfl (heap_new _ _ _ rfl) _ (setRow_new _ _ _ _ _ rfl) ?_); refine of_stopS ?_)
  unfold StopS
  rw [← hw7]
  clear hw7
  have hc := NLA.out w7
  go_wp2_with (first | ((with_reducible refine wl_gL _ rfl ?_); refine wl_loadS rfl _ rfl w.heap.size 2 rfl x.slot (act_slot A7.out) ?_) | (go_at_call 8; refine hc.mono ?_; rintro e w8 ⟨rfl, hb8⟩; refine of_stopS ?_))
  unfold StopS
  clear hc
  have B8 : Hid (Below w.heap.size w w8) := below_step B7.out B7.out.size hb8
  have A8 : Hid (w8.heap[w.heap.size]? = some (.cells (actV x) 29 (0, 0))) := (hb8.block _ (Array.getElem?_eq_some_iff.1 A7.out).1).trans A7.out
  clear hb8
  have k3 := (actf_of A8.out).c3
  have hc := NRU.out w8
  go_wp2_with (first | (go_at_call 9; refine hc.mono ?_; rintro e w9 ⟨rfl, hb9⟩; refine of_stopS ?_))
  unfold StopS
  clear hc k3
  have B9 : Hid (Below w.heap.size w w9) := below_step B8.out B8.out.size hb9
  have A9 : Hid (w9.heap[w.heap.size]? = some (.cells (actV x) 29 (0, 0))) := (hb9.block _ (Array.getElem?_eq_some_iff.1 A8.out).1).trans A8.out
  clear hb9
  have k3 := (actf_of A9.out).c3
  have k4 := (actf_of A9.out).c4
  have hc := NKE.out w9
  go_wp2_with (first | (go_at_call 10; refine hc.mono ?_; rintro e w10 ⟨rfl, hb10⟩; refine of_stopS ?_))
  unfold StopS
  clear hc k3 k4
  have B10 : Hid (Below w.heap.size w w10) := below_step B9.out B9.out.size hb10
  have A10 : Hid (w10.heap[w.heap.size]? = some (.cells (actV x) 29 (0, 0))) := (hb10.block _ (Array.getElem?_eq_some_iff.1 A9.out).1).trans A9.out
  clear hb10
  have k1 := (actf_of A10.out).c1
  have hc := NTI.out w10
  go_wp2_with (first | (go_at_call 11; refine hc.mono ?_; rintro e w11 ⟨rfl, hb11⟩; refine of_stopS ?_))
  unfold StopS
  clear hc k1
  have B11 : Hid (Below w.heap.size w w11) := below_step B10.out B10.out.size hb11
  have A11 : Hid (w11.heap[w.heap.size]? = some (.cells (actV x) 29 (0, 0))) := (hb11.block _ (Array.getElem?_eq_some_iff.1 A10.out).1).trans A10.out
  clear hb11
  have k0 := (actf_of A11.out).c0
  have hc := NCO.out w11
  go_wp2_with (first | (go_at_call 12; refine hc.mono ?_; rintro e w12 ⟨rfl, hb12⟩; refine of_stopS ?_))
  unfold StopS
  clear hc k0
  have B12 : Hid (Below w.heap.size w w12) := below_step B11.out B11.out.size hb12
  have A12 : Hid (w12.heap[w.heap.size]? = some (.cells (actV x) 29 (0, 0))) := (hb12.block _ (Array.getElem?_eq_some_iff.1 A11.out).1).trans A11.out
  clear hb12
  have k0 := (actf_of A12.out).c0
  have hc := NSL.out w12
  go_wp2_with (first | (go_at_call 13; refine hc.mono ?_; rintro e w13 ⟨rfl, hb13⟩; refine of_stopS ?_))
  unfold StopS
  clear hc k0
  have B13 : Hid (Below w.heap.size w w13) := below_step B12.out B12.out.size hb13
  have A13 : Hid (w13.heap[w.heap.size]? = some (.cells (actV x) 29 (0, 0))) := (hb13.block _ (Array.getElem?_eq_some_iff.1 A12.out).1).trans A12.out
  clear hb13
  go_wp2_with fail
  go_ret
  exact ⟨by simp, B13.out⟩
end Go.Proofs.Ytojhckjdkafpmab
