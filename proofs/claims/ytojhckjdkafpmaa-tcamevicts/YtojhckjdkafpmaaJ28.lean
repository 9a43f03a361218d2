import Derived.Test.YtojhckjdkafpmaaJ25
import Derived.Test.YtojhckjdkafpmaaJ26
import Derived.Test.YtojhckjdkafpmaaJ27
import Derived.Test.YtojhckjdkafpmaaJ4
import Derived.Test.YtojhckjdkafpmaaJ5
namespace Go.Proofs.Ytojhckjdkafpmaa
open Go Go.RowKit
set_option maxRecDepth 20000

theorem slotsT_in {L : List Slt} (z : Int) (h1 : 1 ≤ z) (h3 : z ≤ 3) : slotsT (bks L) z = bkOf L z := by
  rcases (show z = 1 ∨ z = 2 ∨ z = 3 by omega) with rfl | rfl | rfl <;> rfl
theorem slotsT_out {S : Bks} (z : Int) (h : ¬ (1 ≤ z ∧ z ≤ 3)) : slotsT S z = [] := by
  unfold slotsT
  by_cases h0 : 0 ≤ z ∧ z ≤ 3
  · obtain rfl : z = 0 := by omega
    rw [if_pos h0]; rfl
  · rw [if_neg h0]
set_option maxHeartbeats 16000000 in
theorem alike_any (B n : Nat) (w : World) (g r gr : Nat) (R : Rm) (S : Bks) (L : List Slt) (v1 v2 v3 vl : Value) (h : Pl B n w g r gr R S L v1 v2 v3 vl) :
    Calls Try.prog 12 #[.agg (twoV g r)] w fun e w' => e = .returned (.bool true) ∧ Below w.heap.size w w' := by
  obtain rfl := h.bk
  have RS : Hid (∀ z W, Below w.heap.size w W → Calls Try.prog 38 #[.pointer (some ⟨r, 0, none⟩), .int .i64 z] W fun e w' => (∃ u, e = .returned u ∧ SlotsAt W.heap.size w' u (bkOf L z)) ∧ Below W.heap.size W w') := by
    intro z W hb
    exact rslots_any B W r gr R L vl (h.two.rt.below hb) z h.len
  have OS : Hid (∀ z W, Below w.heap.size w W → Calls Try.prog 14 #[.pointer (some ⟨g, 0, none⟩), .int .i64 z] W fun e w' => (∃ u, e = .returned u ∧ SlotsAt W.heap.size w' u (slotsT (bks L) z)) ∧ Below W.heap.size W w') := by
    intro z W hb
    exact slots_any B W g R (bks L) v1 v2 v3 (h.two.t.below hb) z h.lens
  have OC : Hid (∀ z W, Below w.heap.size w W → Calls Try.prog 13 #[.pointer (some ⟨g, 0, none⟩), .int .i64 z] W fun e w' => e = .returned (.int .i64 ((slotsT (bks L) z).length : Nat)) ∧ w' = W) := by
    intro z W hb
    exact count_any B W g R (bks L) v1 v2 v3 (h.two.t.below hb) z
  have LN : Hid (∀ z, (slotsT (bks L) z).length ≤ 1000000) := by
    intro z
    unfold slotsT
    split
    · exact h.lens _
    · simp
  have SA : Hid (∀ (C : List Slt) (va vb : Value) (W : World), GSl SlotE slotV W va C → GSl SlotE slotV W vb C → C.length ≤ 1000000 → Calls Try.prog 16 #[va, vb] W fun e w' => e = .returned (.bool true) ∧ Below W.heap.size W w') := rsameT_any
  clear h
  unfold twoV
  have T0 : Hid ((w.alloc (.cells #[.pointer (some ⟨g, 0, none⟩), .pointer (some ⟨r, 0, none⟩)] 29)).heap[w.heap.size]? = some (.cells #[.pointer (some ⟨g, 0, none⟩), .pointer (some ⟨r, 0, none⟩)] 29 (0, 0))) := heap_new _ _ _ rfl
  go_enter Try.func12, Try.ntmps12
  go_wp2_with fail
  go_loopw [3] (fun s3 wr => ∃ z : Int, -1 ≤ z ∧ z ≤ 5 ∧ s3 = .int .i64 z ∧ Hid (wr.heap[w.heap.size]? = some (.cells #[.pointer (some ⟨g, 0, none⟩), .pointer (some ⟨r, 0, none⟩)] 29 (0, 0))) ∧ Hid (Below w.heap.size w wr)) (fun s3 _ => (5 - intOf s3).toNat)
  case atStart => exact ⟨-1, by decide, by decide, rfl, T0, (Below.refl _ _).alloc (Nat.le_refl _) _⟩
  case round =>
    clear T0
    obtain ⟨z, hz0, hz5, rfl, HT, HB⟩ := hrel
    by_cases hlt : z < 5
    · have t0 : wr.cell? ⟨w.heap.size, 1, none⟩ = some (.pointer (some ⟨r, 0, none⟩)) := by rw [cell_of_row _ _ _ _ _ _ HT.out]; rfl
      have hrs := RS.out z wr HB.out
      go_wp2_with (go_at_call 38; refine hrs.mono ?_; rintro q w1 ⟨⟨u1, rfl, hu1⟩, hb1⟩; refine of_stopS ?_)
      unfold StopS
      have B1 : Hid (Below w.heap.size w w1) := below_step HB.out HB.out.size hb1
      have T1 : Hid (w1.heap[w.heap.size]? = some (.cells #[.pointer (some ⟨g, 0, none⟩), .pointer (some ⟨r, 0, none⟩)] 29 (0, 0))) := (hb1.block _ (Array.getElem?_eq_some_iff.1 HT.out).1).trans HT.out
      have t1 : w1.cell? ⟨w.heap.size, 0, none⟩ = some (.pointer (some ⟨g, 0, none⟩)) := by rw [cell_of_row _ _ _ _ _ _ T1.out]; rfl
      have hos := OS.out z w1 B1.out
      have U1 : Hid (SlotsAt wr.heap.size w1 u1 (bkOf L z)) := hu1
      obtain ⟨o1, cap1, e1, _, _⟩ := hu1.slice
      clear hu1 hb1 t0 hrs
      by_cases hin : 1 ≤ z ∧ z ≤ 3
      · have g1 : ¬ z < 1 := by omega
        have g2 : ¬ z > 3 := by omega
        have EZ : Hid (slotsT (bks L) z = bkOf L z) := slotsT_in z hin.1 hin.2
        clear hin
        go_wp2_with (go_at_call 14; refine hos.mono ?_; rintro q w2 ⟨⟨u2, rfl, hu2⟩, hb2⟩; refine of_stopS ?_)
        unfold StopS
        have B2 : Hid (Below w.heap.size w w2) := below_step B1.out B1.out.size hb2
        have T2 : Hid (w2.heap[w.heap.size]? = some (.cells #[.pointer (some ⟨g, 0, none⟩), .pointer (some ⟨r, 0, none⟩)] 29 (0, 0))) := (hb2.block _ (Array.getElem?_eq_some_iff.1 T1.out).1).trans T1.out
        rw [EZ.out] at hu2
        have V1 := (U1.out.below hb2).sl
        have V2 := hu2.sl
        have ML : (bkOf L z).length ≤ 1000000 := by rw [← EZ.out]; exact LN.out z
        have hsa := SA.out _ u2 u1 w2 V2 V1 ML
        clear V1 V2 hu2 hb2 hos t1
        subst e1
        go_wp2_with (go_at_call 16; refine hsa.mono ?_; rintro q w3 ⟨rfl, hb3⟩; refine of_stopS ?_)
        unfold StopS
        have B3 : Hid (Below w.heap.size w w3) := below_step B2.out B2.out.size hb3
        have T3 : Hid (w3.heap[w.heap.size]? = some (.cells #[.pointer (some ⟨g, 0, none⟩), .pointer (some ⟨r, 0, none⟩)] 29 (0, 0))) := (hb3.block _ (Array.getElem?_eq_some_iff.1 T2.out).1).trans T2.out
        have t3 : w3.cell? ⟨w.heap.size, 0, none⟩ = some (.pointer (some ⟨g, 0, none⟩)) := by rw [cell_of_row _ _ _ _ _ _ T3.out]; rfl
        have hoc := OC.out z w3 B3.out
        rw [EZ.out] at hoc
        clear hsa hb3
        obtain ⟨m, hm⟩ : ∃ m, m = (bkOf L z).length := ⟨_, rfl⟩
        rw [← hm] at hoc ML
        rw [← hm]
        clear hm
        go_wp2_with (go_at_call 13; refine hoc.mono ?_; rintro q w4 ⟨rfl, hw4⟩; rw [hw4]; clear hw4)
        go_roundw
        case rel => exact ⟨z + 1, by omega, by omega, by go_num, T3, B3⟩
        case measure => simp [intOf]; omega
      · have EZ : Hid (slotsT (bks L) z = []) := slotsT_out z hin
        have hcase : z < 1 ∨ (¬ z < 1 ∧ z > 3) := by omega
        clear hin U1
        subst e1
        rcases hcase with g1 | ⟨g1, g2⟩
        all_goals
          go_wp2_with (go_at_call 14; refine hos.mono ?_; rintro q w2 ⟨⟨u2, rfl, hu2⟩, hb2⟩; refine of_stopS ?_)
          unfold StopS
          have B2 : Hid (Below w.heap.size w w2) := below_step B1.out B1.out.size hb2
          have T2 : Hid (w2.heap[w.heap.size]? = some (.cells #[.pointer (some ⟨g, 0, none⟩), .pointer (some ⟨r, 0, none⟩)] 29 (0, 0))) := (hb2.block _ (Array.getElem?_eq_some_iff.1 T1.out).1).trans T1.out
          rw [EZ.out] at hu2
          have V1 := (SlotsAt.nil w2.heap.size w2).sl
          have V2 := hu2.sl
          have hsa := SA.out _ u2 (.slice none 0 0) w2 V2 V1 (Nat.zero_le _)
          clear V1 V2 hu2 hb2 hos t1
          go_wp2_with (go_at_call 16; refine hsa.mono ?_; rintro q w3 ⟨rfl, hb3⟩; refine of_stopS ?_)
          unfold StopS
          have B3 : Hid (Below w.heap.size w w3) := below_step B2.out B2.out.size hb3
          have T3 : Hid (w3.heap[w.heap.size]? = some (.cells #[.pointer (some ⟨g, 0, none⟩), .pointer (some ⟨r, 0, none⟩)] 29 (0, 0))) := (hb3.block _ (Array.getElem?_eq_some_iff.1 T2.out).1).trans T2.out
          have t3 : w3.cell? ⟨w.heap.size, 0, none⟩ = some (.pointer (some ⟨g, 0, none⟩)) := by rw [cell_of_row _ _ _ _ _ _ T3.out]; rfl
          have hoc := OC.out z w3 B3.out
          rw [EZ.out] at hoc
          clear hsa hb3
          go_wp2_with (go_at_call 13; refine hoc.mono ?_; rintro q w4 ⟨rfl, hw4⟩; rw [hw4]; clear hw4)
          go_roundw
          case rel => exact ⟨z + 1, by omega, by omega, by go_num, T3, B3⟩
          case measure => simp [intOf]; omega
    · have hlt' : ¬ z < 5 := hlt
      go_wp2_with fail
      go_ret
      exact ⟨by simp, HB.out⟩
end Go.Proofs.Ytojhckjdkafpmaa
namespace Go.Proofs.Ytojhckjdkafpmaa
open Go Go.RowKit
set_option maxRecDepth 20000

set_option maxHeartbeats 16000000 in
theorem awakeT_any (w : World) : Calls Try.prog 9 #[] w fun r w' => r = .returned (.bool true) ∧ Below w.heap.size w w' := by
  have NW : Hid (∀ W, Calls Try.prog 25 #[.int .i64 1, .int .i64 9, .int .i64 9, .int .i64 5, .int .i64 0] W fun e w' => (∃ g, e = .returned (.tuple #[.pointer (some ⟨g, 0, none⟩), .int .i64 0]) ∧ TabV W.heap.size w' g awR S0 (.slice none 0 0) (.slice none 0 0) (.slice none 0 0)) ∧ Below W.heap.size W w') := by
    intro W
    refine (new_yes 1 9 9 5 0 ⟨by decide, by decide, by decide, by decide, by decide⟩ W).mono ?_
    rintro e w' ⟨⟨g, rfl, ht⟩, hb⟩
    exact ⟨⟨g, rfl, ht⟩, hb⟩
  have AL : Hid (∀ W, Calls Try.prog 27 #[] W fun e w' => e = .returned (.agg (cv m0 m0)) ∧ Below W.heap.size W w') := all0
  have SP : Hid (∀ W, Calls Try.prog 26 #[.agg (cv m0 m0), .int .i64 0] W fun e w' => e = .returned (.tuple #[.agg (cv m0 m128), .agg (cv m128 m128), .int .i64 0]) ∧ Below W.heap.size W w') := awT5
  have L1 : Hid (∀ B g W v1 v2 v3, TabV B W g awR S0 v1 v2 v3 → Calls Try.prog 22 #[.pointer (some ⟨g, 0, none⟩), .int .i64 0, .int .i64 1, .agg (cv m0 m128), .int .i64 3] W fun r w' => r = .returned (.tuple #[.agg (slotV zeroS), .bool false, .int .i64 0]) ∧ TabTo B W w' g awR S1 v1 v2 v3) := awLearn1
  have L2 : Hid (∀ B g W v1 v2 v3, TabV B W g awR S1 v1 v2 v3 → Calls Try.prog 22 #[.pointer (some ⟨g, 0, none⟩), .int .i64 1, .int .i64 1, .agg (cv m128 m128), .int .i64 4] W fun r w' => r = .returned (.tuple #[.agg (slotV aw1), .bool true, .int .i64 0]) ∧ TabTo B W w' g awR S2 v1 v2 v3) := awLearn2
  have PE : Hid (∀ B g W v1 v2 v3, TabV B W g awR S2 v1 v2 v3 → Calls Try.prog 18 #[.pointer (some ⟨g, 0, none⟩), .int .i64 1, .agg (hv m128)] W fun r w' => r = .returned (.tuple #[.agg (slotV aw2), .bool true]) ∧ Below W.heap.size W w') := awPeek
  have TI : Hid (∀ B g W v1 v2 v3, TabV B W g awR S2 v1 v2 v3 → Calls Try.prog 24 #[.pointer (some ⟨g, 0, none⟩), .int .i64 6] W fun r w' => (∃ o c, r = .returned (.slice o 1 c)) ∧ TabTo B W w' g awR S0 v1 v2 v3) := awTick
  have CO : Hid (∀ B g W v1 v2 v3, TabV B W g awR S0 v1 v2 v3 → Calls Try.prog 13 #[.pointer (some ⟨g, 0, none⟩), .int .i64 1] W fun r w' => r = .returned (.int .i64 0) ∧ w' = W) := awCount
  go_enter Try.func9, Try.ntmps9
  go_wp2_with (go_at_call 25; refine (NW.out _).mono ?_; rintro r w1 ⟨⟨g, rfl, hT1⟩, hb1⟩; refine of_stopS ?_)
  unfold StopS
  have T1 : Hid (TabV w.heap.size w1 g awR S0 (.slice none 0 0) (.slice none 0 0) (.slice none 0 0)) := hT1
  have B1 : Hid (Below w.heap.size w w1) := hb1
  clear hT1 hb1
  go_wp2_with (first | (go_at_call 27; refine (AL.out _).mono ?_; rintro r w2 ⟨rfl, hb2⟩) | (go_at_call 26; refine (SP.out _).mono ?_; rintro r w3 ⟨rfl, hb3⟩; refine of_stopS ?_))
  unfold StopS
  have B3' : Hid (Below w1.heap.size w1 w3) := below_step hb2 hb2.size hb3
  have T3 : Hid (TabV w.heap.size w3 g awR S0 (.slice none 0 0) (.slice none 0 0) (.slice none 0 0)) := T1.out.below B3'.out
  have B3 : Hid (Below w.heap.size w w3) := below_step B1.out B1.out.size B3'.out
  clear hb2 hb3 T1 B1 B3'
  go_wp2_with (first | ((with_reducible refine wl_gSC _ _ rfl ?_); refine of_stopS ?_))
  unfold StopS
  obtain ⟨w4, hw4⟩ : ∃ w4, ((w3.alloc (.cells zeroC 36)).alloc (.cells zeroC 36)).setRow w3.heap.size (cv m0 m128) = w4 := ⟨_, rfl⟩
  have A4 : Hid (w4.heap[w3.heap.size]? = some (.cells (cv m0 m128) 36 (0, 0))) := by show _ = _; rw [← hw4]; exact setRow_heap _ _ _ _ _ _ (heap_past _ _ _ _ (heap_new _ _ _ rfl))
  have A4' : Hid (w4.heap[w3.heap.size + 1]? = some (.cells zeroC 36 (0, 0))) := by show _ = _; rw [← hw4]; exact (setRow_other _ _ _ _ (by omega)).trans (heap_new _ _ _ (by simp))
  have B4 : Hid (Below w3.heap.size w3 w4) := by show Below _ _ _; rw [← hw4]; exact below_setRow (((Below.refl _ _).alloc (Nat.le_refl _) _).alloc (by simp) _) (Nat.le_refl _) _
  refine wl_storeC rfl _ _ rfl w3.heap.size m0 m128 rfl rfl _ (heap_past _ _ _ _ (heap_new _ _ _ rfl)) rfl rfl rfl w4 hw4 ?_
  clear hw4
  obtain ⟨w5, hw5⟩ : ∃ w5, w4.setRow (w3.heap.size + 1) (cv m128 m128) = w5 := ⟨_, rfl⟩
  have A5 : Hid (w5.heap[w3.heap.size]? = some (.cells (cv m0 m128) 36 (0, 0))) := by show _ = _; rw [← hw5]; exact (setRow_other _ _ _ _ (by omega)).trans A4.out
  have C5 : Hid (w5.heap[w3.heap.size + 1]? = some (.cells (cv m128 m128) 36 (0, 0))) := by show _ = _; rw [← hw5]; exact setRow_heap _ _ _ _ _ _ A4'.out
  have B5' : Hid (Below w3.heap.size w3 w5) := by show Below _ _ _; rw [← hw5]; exact below_setRow B4.out (by omega) _
  go_wp2_with (first | ((with_reducible refine wl_gSC _ _ rfl ?_); refine wl_storeC rfl _ _ rfl (w3.heap.size + 1) m128 m128 rfl rfl _ A4'.out rfl rfl rfl w5 hw5 ?_; refine of_stopS ?_))
  unfold StopS
  have T5 : Hid (TabV w.heap.size w5 g awR S0 (.slice none 0 0) (.slice none 0 0) (.slice none 0 0)) := T3.out.below B5'.out
  have B5 : Hid (Below w.heap.size w w5) := below_step B3.out B3.out.size B5'.out
  have N3 : Hid (w.heap.size ≤ w3.heap.size) := B3.out.size
  clear hw5 A4 A4' B4 B5' T3
  have hl1 := L1.out _ g w5 _ _ _ T5.out
  go_wp2_with (first | ((with_reducible refine wl_gC _ rfl ?_); refine wl_loadCg rfl _ rfl w3.heap.size rfl m0 m128 A5.out rfl rfl ?_) | (go_at_call 22; refine hl1.mono ?_; rintro r w6 ⟨rfl, h6⟩; refine of_stopS ?_))
  unfold StopS
  have B6 : Hid (Below w.heap.size w w6) := B5.out.trans (TabTo.belowB T5.out h6)
  obtain ⟨p1, p2, p3, h61, h62, h63⟩ := h6
  have T6 : Hid (TabV w.heap.size w6 g awR S1 p1 p2 p3) := h61
  have C6 : Hid (w6.heap[w3.heap.size + 1]? = some (.cells (cv m128 m128) 36 (0, 0))) := h62.heap C5.out (T5.out.boxes C5.out (by decide) (by decide))
  clear h61 h62 h63 hl1 A5 C5 T5 B5
  have hl2 := L2.out _ g w6 _ _ _ T6.out
  go_wp2_with (first | ((with_reducible refine wl_gC _ rfl ?_); refine wl_loadCg rfl _ rfl (w3.heap.size + 1) rfl m128 m128 C6.out rfl rfl ?_) | (go_at_call 22; refine hl2.mono ?_; rintro r w7 ⟨rfl, h7⟩; refine of_stopS ?_))
  unfold StopS
  have B7 : Hid (Below w.heap.size w w7) := B6.out.trans (TabTo.belowB T6.out h7)
  obtain ⟨q1, q2, q3, h71, h72, h73⟩ := h7
  have T7 : Hid (TabV w.heap.size w7 g awR S2 q1 q2 q3) := h71
  clear h71 h72 h73 hl2 C6 T6 B6
  obtain ⟨w8, hw8⟩ : ∃ w8, w8 = w7.alloc (.cells (slotV aw1) 38) := ⟨_, rfl⟩
  have X8 : Hid (w8.heap[w7.heap.size]? = some (.cells (slotV aw1) 38 (0, 0))) := by show _ = _; rw [hw8]; exact heap_new _ _ _ rfl
  have B8' : Hid (Below w7.heap.size w7 w8) := by show Below _ _ _; rw [hw8]; exact (Below.refl _ _).alloc (Nat.le_refl _) _
  have T8 : Hid (TabV w.heap.size w8 g awR S2 q1 q2 q3) := T7.out.below B8'.out
  have B8 : Hid (Below w.heap.size w w8) := below_step B7.out B7.out.size B8'.out
  have N8 : Hid (w7.heap.size < w8.heap.size) := (Array.getElem?_eq_some_iff.1 X8.out).1
  have hpe := PE.out _ g w8 _ _ _ T8.out
  go_wp2_with (first | ((with_reducible refine wl_gA rfl ?_); refine wl_allocS rfl rfl ?_; try rw [sz_alloc]) | ((with_reducible refine wl_gS _ _ rfl ?_); refine wl_storeS rfl _ _ rfl w7.heap.size aw1 zeroS rfl rfl (heap_new _ _ _ rfl) _ (setRow_new _ _ _ _ _ rfl) ?_); refine of_stopS ?_)
  unfold StopS
  rw [← hw8]
  clear hw8
  go_wp2_with (first | (go_at_call 18; refine hpe.mono ?_; rintro r w9 ⟨rfl, hb9⟩; refine of_stopS ?_))
  unfold StopS
  have X9 : Hid (w9.heap[w7.heap.size]? = some (.cells (slotV aw1) 38 (0, 0))) := (hb9.block _ N8.out).trans X8.out
  have T9 : Hid (TabV w.heap.size w9 g awR S2 q1 q2 q3) := T8.out.below hb9
  have B9 : Hid (Below w.heap.size w w9) := below_step B8.out B8.out.size hb9
  have FX : Hid (¬ footT g q1 q2 q3 w7.heap.size) := by intro hf; have := (T7.out.foot_in _ hf).2; omega
  have FY : Hid (¬ footT g q1 q2 q3 w9.heap.size) := by intro hf; have := (T9.out.foot_in _ hf).2; omega
  clear hb9 hpe X8 T8 B8 B8' N8 T7 B7 B3 N3
  obtain ⟨w10, hw10⟩ : ∃ w10, w10 = w9.alloc (.cells (slotV aw2) 38) := ⟨_, rfl⟩
  have N9 : Hid (w7.heap.size < w9.heap.size) := (Array.getElem?_eq_some_iff.1 X9.out).1
  have X10 : Hid (w10.heap[w7.heap.size]? = some (.cells (slotV aw1) 38 (0, 0))) := by show _ = _; rw [hw10]; exact heap_past _ _ _ _ X9.out
  have Y10 : Hid (w10.heap[w9.heap.size]? = some (.cells (slotV aw2) 38 (0, 0))) := by show _ = _; rw [hw10]; exact heap_new _ _ _ rfl
  have B10' : Hid (Below w9.heap.size w9 w10) := by show Below _ _ _; rw [hw10]; exact (Below.refl _ _).alloc (Nat.le_refl _) _
  have T10 : Hid (TabV w.heap.size w10 g awR S2 q1 q2 q3) := T9.out.below B10'.out
  have B10 : Hid (Below w.heap.size w w10) := below_step B9.out B9.out.size B10'.out
  have hti := TI.out _ g w10 _ _ _ T10.out
  go_wp2_with (first | ((with_reducible refine wl_gA rfl ?_); refine wl_allocS rfl rfl ?_; try rw [sz_alloc]) | ((with_reducible refine wl_gS _ _ rfl ?_); refine wl_storeS rfl _ _ rfl w9.heap.size aw2 zeroS rfl rfl (heap_new _ _ _ rfl) _ (setRow_new _ _ _ _ _ rfl) ?_); refine of_stopS ?_)
  unfold StopS
  rw [← hw10]
  clear hw10
  go_wp2_with (first | (go_at_call 24; refine hti.mono ?_; rintro r w11 ⟨⟨o, c, rfl⟩, h11⟩; refine of_stopS ?_))
  unfold StopS
  have B11 : Hid (Below w.heap.size w w11) := B10.out.trans (TabTo.belowB T10.out h11)
  obtain ⟨p1, p2, p3, h61, h62, h63⟩ := h11
  have T11 : Hid (TabV w.heap.size w11 g awR S0 p1 p2 p3) := h61
  have X11 : Hid (w11.heap[w7.heap.size]? = some (.cells (slotV aw1) 38 (0, 0))) := h62.heap X10.out FX.out
  have Y11 : Hid (w11.heap[w9.heap.size]? = some (.cells (slotV aw2) 38 (0, 0))) := h62.heap Y10.out FY.out
  clear h61 h62 h63 hti X9 T9 B9 N9 X10 Y10 B10' T10 B10
  have hx : w11.cell? ⟨w7.heap.size, 30, none⟩ = some (.int .i64 3) := by rw [cell_of_row _ _ _ _ _ _ X11.out]; rfl
  have hy : w11.cell? ⟨w9.heap.size, 30, none⟩ = some (.int .i64 4) := by rw [cell_of_row _ _ _ _ _ _ Y11.out]; rfl
  have hco := CO.out _ g w11 _ _ _ T11.out
  go_wp2_with (first | (go_at_call 13; refine hco.mono ?_; rintro r w12 ⟨rfl, hw12⟩; subst hw12))
  go_ret
  exact ⟨rfl, B11.out⟩
end Go.Proofs.Ytojhckjdkafpmaa
namespace Go.Proofs.Ytojhckjdkafpmaa
open Go Go.RowKit
set_option maxRecDepth 20000

def zeroA : ActM := ⟨0, 0, zeroS, List.replicate 13 0⟩
def ActE : El := ⟨40, 24, 51, 144, actV zeroA⟩
theorem actV_size {x : ActM} (h : x.head.length = 13) : (actV x).size = 51 := by
  unfold actV
  simp only [Array.size_append, slotV_size, hv_size, h]
  rfl
theorem zero_act : actV zeroA = #[.int .i64 0, .int .i64 0] ++ (#[.int .i64 0, .int .i64 0, .int .i64 0, .int .i64 0] ++ zeroC ++ #[.int .i64 0, .int .i64 0, .int .i64 0, .int .i64 0, .int .i64 0, .int .i64 0]) ++ zero26 := by
  unfold actV
  rw [show zeroA.slot = zeroS from rfl, zero_slot, zero26_eq, Z_eq]
  rfl
theorem ActOk : ActE.Ok := ⟨Try.underlying24, ⟨_, Try.underlying40, rfl⟩, by
    show _ = some (some (Value.agg (actV zeroA)), _, _)
    rw [zero_act]; kernel_rfl, actV_size rfl, by decide, by decide, by decide⟩
/-- A call that may come. -/
def OkA (x : ActM) : Prop := OkC x.slot.cube ∧ Byt x.head
theorem does_any (B n : Nat) (w : World) (g r gr : Nat) (R : Rm) (S : Bks) (L : List Slt) (v1 v2 v3 vl : Value) (h : Pl B n w g r gr R S L v1 v2 v3 vl) (hn : n ≤ 100) (x : ActM) (hx : OkA x) :
    Calls Try.prog 11 #[.agg (twoV g r), .agg (actV x)] w fun e w' => e = .returned (.bool true) ∧ PlTo B (n + 1) w w' g r gr R (stepT canC hsC R S x) v1 v2 v3 vl := by
  by_cases h1 : x.kind = 1
  · exact does1_any B n w g r gr R S L v1 v2 v3 vl h hn x h1 hx.1 hx.2
  by_cases h2 : x.kind = 2
  · exact does2_any B n w g r gr R S L v1 v2 v3 vl h x h2 hx.1
  by_cases h3 : x.kind = 3
  · exact does3_any B n w g r gr R S L v1 v2 v3 vl h hn x h3 hx.1 hx.2
  by_cases h4 : x.kind = 4
  · exact does4_any B n w g r gr R S L v1 v2 v3 vl h hn x h4 hx.1 hx.2
  by_cases h5 : x.kind = 5
  · exact does5_any B n w g r gr R S L v1 v2 v3 vl h x h5 hx.1
  by_cases h6 : x.kind = 6
  · exact does6_any B n w g r gr R S L v1 v2 v3 vl h x h6 hx.1
  by_cases h7 : x.kind = 7
  · exact does7_any B n w g r gr R S L v1 v2 v3 vl h x h7 hx.1
  exact does0_any B n w g r gr R S L v1 v2 v3 vl h x hx.1 h1 h2 h3 h4 h5 h6 h7
/-- A value is loaded. -/
theorem q_ldT {K : World → Prop} {ops : Array Oper} {Q : Act → Prop} {rest : List Oper} {o : Oper} {a : Act} (hw : Region.wanted o (yielded ops a.tmps) = true) (t : TypeId) (x : Operand) (ho : o.op = .load t x)
    (ad : Addr) (hx : a.eval x = .pointer (some ad)) (v : Value) (hl : ∀ w', K w' → (loadVar t ad).run Try.prog w' = .ok v w')
    (h : wpQuiet Try.prog ops K Q rest (a.put o.dst v)) : wpQuiet Try.prog ops K Q (o :: rest) a := by
  refine BigFrame.wpQuiet_want hw fun K' hK => ⟨v, fun w hC => ?_, hK _ h⟩
  unfold Oper.quietAt execOp
  simp only [ho, hx, Instr.loadAt, Instr.sureAddr, Sem.run_bind, Sem.run_pure, Result.andThen_ok, hl w hC]
  exact ⟨rfl, rfl⟩
theorem wl_ldT {ops : Array Oper} {rest : List Oper} {o : Oper} {a : Act} {w : World} {Q : Exit → Act → World → Prop} (hw : Region.wanted o (yielded ops a.tmps) = true) (t : TypeId) (x : Operand) (ho : o.op = .load t x)
    (ad : Addr) (hx : a.eval x = .pointer (some ad)) (v : Value) (hl : (loadVar t ad).run Try.prog w = .ok v w)
    (h : wpList Try.prog ops Q rest (a.put o.dst v) w) : wpList Try.prog ops Q (o :: rest) a w := by
  refine wpList_step fun K hK => ?_
  rw [if_pos hw]
  unfold Oper.wp execOp
  simp only [ho, hx, Instr.loadAt, Instr.sureAddr, Sem.run_bind, Sem.run_pure, Result.andThen_ok, hl]
  exact hK _ _ h
theorem run_ldT {o : Oper} (t : TypeId) (x : Operand) (ho : o.op = .load t x) (a : Act) (W : World) (ad : Addr) (hx : a.eval x = .pointer (some ad)) (v : Value) (hl : (loadVar t ad).run Try.prog W = .ok v W) : (execOp a.eval o).run Try.prog W = .ok (.value v) W := by
  unfold execOp
  simp only [ho, hx, Instr.loadAt, Instr.sureAddr, Sem.run_bind, Sem.run_pure, Result.andThen_ok, hl]
theorem wl_gT {P : Program} {ops : Array Oper} {Q : Exit → Act → World → Prop} {o : Oper} {rest : List Oper} {a : Act} {w : World} (t : TypeId) (x : Operand) (_ : o.op = .load t x) (h : wpList P ops Q (o :: rest) a w) : wpList P ops Q (o :: rest) a w := h
theorem two_load {w : World} {p g r : Nat} (h : w.heap[p]? = some (.cells (twoV g r) 29 (0, 0))) : (loadVar 29 ⟨p, 0, none⟩).run Try.prog w = .ok (.agg (twoV g r)) w :=
  run_loadVar_row w p 29 29 (twoV g r) (0, 0) _ h Try.underlying29 rfl rfl
theorem room_load {w : World} {p : Nat} {c a q i h : Int} (hg : w.heap[p]? = some (.cells (roomA c a q i h) 23 (0, 0))) : (loadVar 23 ⟨p, 0, none⟩).run Try.prog w = .ok (.agg (roomA c a q i h)) w :=
  run_loadVar_row w p 23 23 (roomA c a q i h) (0, 0) _ hg Try.underlying23 rfl rfl
/-- Worlds behind one in which a block is so. -/
structure KeepL (w : World) (p : Nat) (o : Obj) where
  world : World
  below : Below w.heap.size w world
  k1 : world.heap[p]? = some o
abbrev InL (w : World) (p : Nat) (o : Obj) (W : World) : Prop := ∃ z : KeepL w p o, W = z.world
theorem InL.of {w W : World} {p : Nat} {o : Obj} (hb : Below w.heap.size w W) (h : W.heap[p]? = some o) : InL w p o W := ⟨⟨W, hb, h⟩, rfl⟩
/-- Both tables while calls are played: what stays beside them. -/
structure Run (w0 : World) (B n : Nat) (w : World) (p g r gr : Nat) (R : Rm) (S : Bks) (L : List Slt) (v1 v2 v3 vl : Value) : Prop where
  pl : Pl B n w g r gr R S L v1 v2 v3 vl
  blk : w.heap[p]? = some (.cells (twoV g r) 29 (0, 0))
  out : ¬ footP g r gr v1 v2 v3 vl p
  below : Below w0.heap.size w0 w
  hB : w0.heap.size ≤ B
def RunE (w0 : World) (B n : Nat) (w : World) (p g r gr : Nat) (R : Rm) (S : Bks) : Prop := ∃ L v1 v2 v3 vl, Run w0 B n w p g r gr R S L v1 v2 v3 vl
theorem foot_B {B : Nat} {w : World} {g r gr : Nat} {R : Rm} {S : Bks} {L : List Slt} {v1 v2 v3 vl : Value} (h : TwoT B w g r gr R S L v1 v2 v3 vl) : ∀ k, footP g r gr v1 v2 v3 vl k → B ≤ k := fun k e => by
  rcases e with e | e
  · exact (h.t.foot_in k e).1
  · exact (h.rt.foot_in k e).1
theorem Run.stay {w0 : World} {B n : Nat} {w w1 : World} {p g r gr : Nat} {R : Rm} {S : Bks} {L : List Slt} {v1 v2 v3 vl : Value} (h : Run w0 B n w p g r gr R S L v1 v2 v3 vl) (hb : Below w.heap.size w w1) : Run w0 B n w1 p g r gr R S L v1 v2 v3 vl :=
  ⟨h.pl.below hb, (hb.block _ (Array.getElem?_eq_some_iff.1 h.blk).1).trans h.blk, h.out, below_step h.below h.below.size hb, h.hB⟩
theorem Run.to {w0 : World} {B n : Nat} {w w1 : World} {p g r gr : Nat} {R : Rm} {S S' : Bks} {L : List Slt} {v1 v2 v3 vl : Value} (h : Run w0 B n w p g r gr R S L v1 v2 v3 vl) (ht : PlTo B (n + 1) w w1 g r gr R S' v1 v2 v3 vl) : RunE w0 B (n + 1) w1 p g r gr R S' := by
  obtain ⟨L', u1, u2, u3, ul, h1, h2⟩ := ht
  have hp := (Array.getElem?_eq_some_iff.1 h.blk).1
  refine ⟨L', u1, u2, u3, ul, h2, h1.kept.heap h.blk h.out, fun e => ?_, h.below.trans (h1.kept.below (fun k e => Nat.le_trans h.hB (foot_B h.pl.two k e)) h.below.size), h.hB⟩
  rcases h1.foot p e with e | e
  · exact h.out e
  · omega
/-- The tables behind calls. -/
def playS (R : Rm) (S : Bks) : List ActM → Bks
  | [] => S
  | x :: l => playS R (stepT canC hsC R S x) l
theorem playS_snoc (R : Rm) (S : Bks) (l : List ActM) (x : ActM) : playS R S (l ++ [x]) = stepT canC hsC R (playS R S l) x := by
  induction l generalizing S with
  | nil => rfl
  | cons y l ih => exact ih _
end Go.Proofs.Ytojhckjdkafpmaa
namespace Go.Proofs.Ytojhckjdkafpmaa
open Go.ChangeShapes Go.WideShapes Go.ChangeAt Go.WideMaps Go.WideElems Go.RowKit
set_option maxRecDepth 20000

theorem take_one11 {cs : List Value} {i : Nat} {v : Value} (h : (cs.drop i).take 1 = [v]) : cs[i]? = some v := by
  have := congrArg List.head? h
  rw [List.head?_take, if_neg (by decide), List.head?_drop] at this
  simpa using this
theorem field_int11 {P : Program} {H : Type} {enc : TypeId × Value → H} {W : World} {base : Nat} {spare : Nat → Bool} {held : Bool} {n : Nat} {t : TypeId} {cs : List Value} {y : Option (DataW H × List MemPlace)} {i : Nat} {k : IntKind} (ht : P.underlying t = some (.int k)) (hc : P.cellsOf t = 1)
    (h : DataW.trod enc P W base spare held n t ((cs.drop i).take (P.cellsOf t)) = y) (hy : y.isSome = true) : ∃ z : Int, cs[i]? = some (.int k z) := by
  obtain ⟨y', rfl⟩ := Option.isSome_iff_exists.1 hy
  obtain ⟨z, h1, _, h3⟩ := DataW.trod_int ht h
  rw [hc] at h1
  exact ⟨z, take_one11 h1⟩
theorem xs_some11 {α : Type} {xs : List α} {n i : Nat} (h : xs.length = n) (hi : i < n) : (xs[i]?).isSome = true := by
  rw [List.getElem?_eq_getElem (by omega)]; rfl
theorem cube_of11 {H : Type} {enc : TypeId × Value → H} {W : World} {base : Nat} {spare : Nat → Bool} {held : Bool} {fuel : Nat} {cs : List Value} {x : DataW H × List MemPlace} (hl : cs.length = 26)
    (h : DataW.trod enc Try.prog W base spare held fuel 36 cs = some x) : ∃ V M : List Int, cs = (cv V M).toList ∧ Byt V ∧ Byt M := by
  have c13 : Try.prog.cellsOf 34 = 13 := by kernel_rfl
  obtain ⟨y0, y1, k, hy, _, t0, t1⟩ := trod_struct2 Try.underlying36 h
  rw [c13] at t0 t1
  obtain ⟨V, hV, bV⟩ := bytes_of (by simp; omega) t0
  obtain ⟨M, hM, bM⟩ := bytes_of (by simp; omega) t1
  refine ⟨V, M, ?_, bV, bM⟩
  unfold cv hv
  rw [List.map_append, ← hV, ← hM]
  simp only [List.drop_zero]
  rw [List.take_of_length_le (l := List.drop 13 cs) (by simp; omega), List.take_append_drop]
theorem part_at {cs l : List Value} {a n : Nat} (h : (cs.drop a).take n = l) (j : Nat) (hj : j < n) : cs[a + j]? = l[j]? := by
  rw [← h, List.getElem?_take_of_lt hj, List.getElem?_drop]
theorem slot_of {H : Type} {enc : TypeId × Value → H} {W : World} {base : Nat} {spare : Nat → Bool} {held : Bool} {fuel : Nat} {cs : List Value} {x : DataW H × List MemPlace} (hl : cs.length = 36)
    (h : DataW.trod enc Try.prog W base spare held fuel 38 cs = some x) : ∃ s : Slt, cs = (slotV s).toList ∧ OkC s.cube := by
  have c3 : Try.prog.cellsOf 3 = 1 := by kernel_rfl
  have c26 : Try.prog.cellsOf 36 = 26 := by kernel_rfl
  obtain ⟨xs, n, _, _, _, hxl, hf⟩ := DataW.trod_struct Try.underlying38 h
  obtain ⟨n0, h0⟩ := field_int11 Try.underlying3 c3 (hf 0 _ rfl) (xs_some11 hxl (by decide))
  obtain ⟨n1, h1⟩ := field_int11 Try.underlying3 c3 (hf 1 _ rfl) (xs_some11 hxl (by decide))
  obtain ⟨n2, h2⟩ := field_int11 Try.underlying3 c3 (hf 2 _ rfl) (xs_some11 hxl (by decide))
  obtain ⟨n3, h3⟩ := field_int11 Try.underlying3 c3 (hf 3 _ rfl) (xs_some11 hxl (by decide))
  obtain ⟨n5, h5⟩ := field_int11 Try.underlying3 c3 (hf 5 _ rfl) (xs_some11 hxl (by decide))
  obtain ⟨n6, h6⟩ := field_int11 Try.underlying3 c3 (hf 6 _ rfl) (xs_some11 hxl (by decide))
  obtain ⟨n7, h7⟩ := field_int11 Try.underlying3 c3 (hf 7 _ rfl) (xs_some11 hxl (by decide))
  obtain ⟨n8, h8⟩ := field_int11 Try.underlying3 c3 (hf 8 _ rfl) (xs_some11 hxl (by decide))
  obtain ⟨n9, h9⟩ := field_int11 Try.underlying3 c3 (hf 9 _ rfl) (xs_some11 hxl (by decide))
  obtain ⟨n10, h10⟩ := field_int11 Try.underlying3 c3 (hf 10 _ rfl) (xs_some11 hxl (by decide))
  have h4 : DataW.trod enc Try.prog W base spare held n 36 ((cs.drop 4).take (Try.prog.cellsOf 36)) = xs[4]? := hf 4 _ rfl
  obtain ⟨y, hy⟩ := Option.isSome_iff_exists.1 (xs_some11 hxl (show 4 < 11 by decide))
  rw [hy, c26] at h4
  obtain ⟨V, M, hVM, bV, bM⟩ := cube_of11 (by simp; omega) h4
  refine ⟨⟨n0, n1, n2, n3, (V, M), n5, n6, n7, n8, n9, n10⟩, ?_, bV, bM⟩
  apply List.ext_getElem?
  intro k
  refine Eq.trans ?_ (Array.getElem?_toList).symm
  rcases (show k < 4 ∨ (4 ≤ k ∧ k < 30) ∨ (30 ≤ k ∧ k < 36) ∨ 36 ≤ k by omega) with hk | ⟨k1, k2⟩ | ⟨k1, k2⟩ | hk
  · rw [slotV_lo _ k hk]
    rcases (show k = 0 ∨ k = 1 ∨ k = 2 ∨ k = 3 by omega) with rfl | rfl | rfl | rfl
    · exact h0
    · exact h1
    · exact h2
    · exact h3
  · obtain ⟨j, rfl⟩ : ∃ j, k = 4 + j := ⟨k - 4, by omega⟩
    rw [slotV_cube _ j (by omega), part_at hVM j (by omega)]
    refine Eq.trans Array.getElem?_toList ?_
    simp only [pad_id bV.1, pad_id bM.1]
  · obtain ⟨j, rfl⟩ : ∃ j, k = 30 + j := ⟨k - 30, by omega⟩
    rw [slotV_hi _ j]
    rcases (show j = 0 ∨ j = 1 ∨ j = 2 ∨ j = 3 ∨ j = 4 ∨ j = 5 by omega) with rfl | rfl | rfl | rfl | rfl | rfl
    · exact h5
    · exact h6
    · exact h7
    · exact h8
    · exact h9
    · exact h10
  · rw [List.getElem?_eq_none (by omega), Array.getElem?_eq_none (by rw [slotV_size]; omega)]
theorem act_of {H : Type} {enc : TypeId × Value → H} {W : World} {base : Nat} {spare : Nat → Bool} {held : Bool} (fuel : Nat) (cs : List Value) (x : DataW H × List MemPlace) (hl : cs.length = 51)
    (h : DataW.trod enc Try.prog W base spare held fuel 40 cs = some x) : ∃ r : { r : ActM // OkA r }, cs = (actV r.1).toList ∧ True := by
  have c3 : Try.prog.cellsOf 3 = 1 := by kernel_rfl
  have c36 : Try.prog.cellsOf 38 = 36 := by kernel_rfl
  have c13 : Try.prog.cellsOf 34 = 13 := by kernel_rfl
  obtain ⟨xs, n, _, _, _, hxl, hf⟩ := DataW.trod_struct Try.underlying40 h
  obtain ⟨n0, h0⟩ := field_int11 Try.underlying3 c3 (hf 0 _ rfl) (xs_some11 hxl (by decide))
  obtain ⟨n1, h1⟩ := field_int11 Try.underlying3 c3 (hf 1 _ rfl) (xs_some11 hxl (by decide))
  have h2 : DataW.trod enc Try.prog W base spare held n 38 ((cs.drop 2).take (Try.prog.cellsOf 38)) = xs[2]? := hf 2 _ rfl
  obtain ⟨y, hy⟩ := Option.isSome_iff_exists.1 (xs_some11 hxl (show 2 < 4 by decide))
  rw [hy, c36] at h2
  obtain ⟨s, hs, bs⟩ := slot_of (by simp; omega) h2
  have h3 : DataW.trod enc Try.prog W base spare held n 34 ((cs.drop 38).take (Try.prog.cellsOf 34)) = xs[3]? := hf 3 _ rfl
  obtain ⟨z, hz⟩ := Option.isSome_iff_exists.1 (xs_some11 hxl (show 3 < 4 by decide))
  rw [hz, c13] at h3
  obtain ⟨L, hL, bL⟩ := bytes_of (by simp; omega) h3
  refine ⟨⟨⟨n0, n1, s, L⟩, bs, bL⟩, ?_, trivial⟩
  apply List.ext_getElem?
  intro k
  refine Eq.trans ?_ (Array.getElem?_toList).symm
  rcases (show k < 2 ∨ (2 ≤ k ∧ k < 38) ∨ (38 ≤ k ∧ k < 51) ∨ 51 ≤ k by omega) with hk | ⟨k1, k2⟩ | ⟨k1, k2⟩ | hk
  · rw [actV_lo _ k hk]
    rcases (show k = 0 ∨ k = 1 by omega) with rfl | rfl
    · exact h0
    · exact h1
  · obtain ⟨j, rfl⟩ : ∃ j, k = 2 + j := ⟨k - 2, by omega⟩
    rw [actV_slot _ j (by omega), part_at hs j (by omega)]
    exact Array.getElem?_toList
  · obtain ⟨j, rfl⟩ : ∃ j, k = 38 + j := ⟨k - 38, by omega⟩
    rw [actV_head _ j, part_at hL j (by omega)]
    unfold hv
    simp
  · rw [List.getElem?_eq_none (by omega), Array.getElem?_eq_none (by rw [actV_size bL.1]; omega)]
theorem okA_zero : OkA zeroA := ⟨zeroS_ok, zeroS_ok.1⟩
theorem gsl_map11 {α β : Type} {E : El} {enc : β → Array Value} {f : α → β} {w : World} {v : Value} {C : List α} (h : GSl E (fun a => enc (f a)) w v C) : GSl E enc w v (C.map f) := by
  obtain ⟨o, cap, h1, h2, h3, h4⟩ := h
  refine ⟨o, cap, by rw [List.length_map]; exact h1, by rw [List.length_map]; exact h2, h3, fun i hi => ?_⟩
  have hi' : i < C.length := by rw [List.length_map] at hi; exact hi
  obtain ⟨g, off, cur, t, fr, e1, e2, e3⟩ := h4 i hi'
  refine ⟨g, off, cur, t, fr, e1, e2, fun j hj => ?_⟩
  have e4 := e3 j hj
  rw [List.getElem_map]
  exact e4
theorem open_acts {H : Type} {enc : TypeId × Value → H} {W : World} {r : Reach} {b0 base : Nat} {spare : Nat → Bool} {held : Bool} {v : Value} {d : DataW H} {p : List MemPlace}
    (hok : Value.okWide Try.prog W r b0 24 v) (h : DataW.Trod enc Try.prog W base spare held 24 v d p) : ∃ A : List ActM, GSl ActE actV W v A ∧ ∀ x ∈ A, OkA x := by
  obtain ⟨fuel, hf⟩ := h
  have hv1 : v.cells.toList = [v] := by
    simp only [Value.okWide, Cell.okWide, Cell.ok, Try.underlying24] at hok
    cases v <;> simp_all [Value.cells]
  rw [hv1] at hf
  have hin : Inhabited { r : ActM // OkA r } := ⟨⟨zeroA, okA_zero⟩⟩
  have hsz : ∀ a : { r : ActM // OkA r }, (actV a.1).size = ActE.size := fun a => actV_size a.2.2.1
  have hof : ∀ (fuel : Nat) (cs : List Value) (x : DataW H × List MemPlace), cs.length = ActE.size → DataW.trod enc Try.prog W base spare held fuel ActE.elem cs = some x → ∃ r : { r : ActM // OkA r }, cs = (actV r.1).toList ∧ True := fun fuel cs x h1 h2 => act_of fuel cs x h1 h2
  obtain ⟨l, h1, _⟩ := open_any (E := ActE) ActOk (fun r : { r : ActM // OkA r } => actV r.1) hsz (fun _ => True) hof hf
  refine ⟨l.map (fun q : { r : ActM // OkA r } => q.1), gsl_map11 (enc := actV) (f := fun q : { r : ActM // OkA r } => q.1) h1, fun r hr => ?_⟩
  obtain ⟨q, _, rfl⟩ := List.mem_map.1 hr
  exact q.2
theorem open_room {H : Type} {enc : TypeId × Value → H} {W : World} {r : Reach} {b0 base : Nat} {spare : Nat → Bool} {held : Bool} {v : Value} {d : DataW H} {p : List MemPlace}
    (hok : Value.okWide Try.prog W r b0 23 v) (h : DataW.Trod enc Try.prog W base spare held 23 v d p) : ∃ c a q i h : Int, v = .agg (roomA c a q i h) := by
  have c3 : Try.prog.cellsOf 3 = 1 := by kernel_rfl
  have c5 : Try.prog.cellsOf 23 = 5 := by kernel_rfl
  simp only [Value.okWide, Try.underlying23] at hok
  obtain ⟨cs, rfl, hsz, _⟩ := hok
  rw [c5] at hsz
  obtain ⟨fuel, hf⟩ := h
  simp only [Value.cells] at hf
  obtain ⟨xs, n, _, _, _, hxl, hf⟩ := DataW.trod_struct Try.underlying23 hf
  obtain ⟨n0, h0⟩ := field_int11 Try.underlying3 c3 (hf 0 _ rfl) (xs_some11 hxl (by decide))
  obtain ⟨n1, h1⟩ := field_int11 Try.underlying3 c3 (hf 1 _ rfl) (xs_some11 hxl (by decide))
  obtain ⟨n2, h2⟩ := field_int11 Try.underlying3 c3 (hf 2 _ rfl) (xs_some11 hxl (by decide))
  obtain ⟨n3, h3⟩ := field_int11 Try.underlying3 c3 (hf 3 _ rfl) (xs_some11 hxl (by decide))
  obtain ⟨n4, h4⟩ := field_int11 Try.underlying3 c3 (hf 4 _ rfl) (xs_some11 hxl (by decide))
  refine ⟨n0, n1, n2, n3, n4, ?_⟩
  congr 1
  apply Array.ext_getElem?
  intro k
  rw [← Array.getElem?_toList]
  rcases (show k = 0 ∨ k = 1 ∨ k = 2 ∨ k = 3 ∨ k = 4 ∨ 5 ≤ k by omega) with rfl | rfl | rfl | rfl | rfl | hk
  · exact h0
  · exact h1
  · exact h2
  · exact h3
  · exact h4
  · rw [List.getElem?_eq_none (by simpa using by omega), Array.getElem?_eq_none (by simpa [roomA] using hk)]
end Go.Proofs.Ytojhckjdkafpmaa
