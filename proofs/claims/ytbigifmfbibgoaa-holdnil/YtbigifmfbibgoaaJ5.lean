import Derived.Test.YtbigifmfbibgoaaJ4
import Derived.Test.YtbigifmfbibgoaaJ1
import Derived.Deep.Slices
import Derived.SizedLaws
namespace Go.Proofs.Ytbigifmfbibgoaa
open Go Go.RowKit
set_option maxRecDepth 20000

/-! A hold's calls, told by its mathematics. -/
def HoldV (w : World) (g : Nat) (h : HoldM) : Prop := ∃ s, HoV w g s ∧ HoR s h
def HoldTo (w w' : World) (g : Nat) (h : HoldM) : Prop := HoldV w' g h ∧ Kept (isB g) w w'
theorem HoldV.below {w w' : World} {g : Nat} {h : HoldM} (hV : HoldV w g h) (hb : Below w.heap.size w w') : HoldV w' g h := by
  obtain ⟨s, h1, h2⟩ := hV
  exact ⟨s, h1.below hb, h2⟩
theorem HoldV.stay {w w' : World} {g : Nat} {h : HoldM} (hV : HoldV w g h) (hb : Below w.heap.size w w') : HoldTo w w' g h := ⟨hV.below hb, Kept.of_below hb⟩
theorem HoldV.lt {w : World} {g : Nat} {h : HoldM} (hV : HoldV w g h) : g < w.heap.size := by
  obtain ⟨s, h1, h2⟩ := hV
  exact h1.lt
theorem HoldV.kept {X : Nat → Prop} {w w' : World} {g : Nat} {h : HoldM} (hV : HoldV w g h) (hk : Kept X w w') (hX : ¬ X g) : HoldV w' g h := by
  obtain ⟨s, h1, h2⟩ := hV
  exact ⟨s, hk.heap h1 hX, h2⟩
theorem HoldTo.belowH {B : Nat} {w w' : World} {g : Nat} {h : HoldM} (ht : HoldTo w w' g h) (hg : B ≤ g) (hw : B ≤ w.heap.size) : Below B w w' := ht.2.below (fun k e => by unfold isB at e; omega) hw
set_option maxHeartbeats 16000000 in
theorem item_any (w : World) (g : Nat) (h : HoldM) (hV : HoldV w g h) (fl ep at_ of : Int) (hof : of ≤ 9223372036854775807) :
    Calls Try.prog 23 #[.pointer (some ⟨g, 0, none⟩), .int .i64 fl, .int .i64 ep, .int .i64 at_, .int .i64 of] w fun x w' => x = .returned (.int .i64 (itemH h fl ep at_ of).2) ∧ HoldTo w w' g (itemH h fl ep at_ of).1 := by
  have ST : Hid (HoldTo w w g h) := hV.stay (Below.refl _ _)
  obtain ⟨s, hs, hr⟩ := hV
  unfold itemH
  by_cases h0 : fl < 0 ∨ ep < 1 ∨ at_ < 0 ∨ of ≤ at_
  · rw [if_pos h0]
    clear hs hr
    by_cases h1 : fl < 0
    · clear h0
      go_enter Try.func23, Try.ntmps23
      go_wp2_with fail
      go_ret
      exact ⟨rfl, ST.out⟩
    by_cases h2 : ep < 1
    · clear h0
      go_enter Try.func23, Try.ntmps23
      go_wp2_with fail
      go_ret
      exact ⟨rfl, ST.out⟩
    by_cases h3 : at_ < 0
    · clear h0
      go_enter Try.func23, Try.ntmps23
      go_wp2_with fail
      go_ret
      exact ⟨rfl, ST.out⟩
    have h4 : of ≤ at_ := by omega
    clear h0
    go_enter Try.func23, Try.ntmps23
    go_wp2_with fail
    go_ret
    exact ⟨rfl, ST.out⟩
  · rw [if_neg h0]
    have r1 := floor_hoR hr fl
    have C1 := toFloor_any w g s hs fl
    obtain ⟨s1, hs1⟩ : ∃ s1, s1 = floorS s fl := ⟨_, rfl⟩
    rw [← hs1] at r1 C1
    have r2 := epoch_hoR r1 ep
    have C2 : Hid (∀ W, HoV W g s1 → Calls Try.prog 30 #[.pointer (some ⟨g, 0, none⟩), .int .i64 ep] W fun x w' => x = .returned (.tuple #[]) ∧ HoTo W w' g (epochS s1 ep)) := fun W hW => toEpoch_any W g s1 hW ep
    obtain ⟨s2, hs2⟩ : ∃ s2, s2 = epochS s1 ep := ⟨_, rfl⟩
    rw [← hs2] at r2 C2
    obtain ⟨h2, hh2⟩ : ∃ h2, h2 = riseH (liftH h fl) ep := ⟨_, rfl⟩
    rw [← hh2] at r2 ⊢
    have e2 := r2.held ep
    have C3 : Hid (∀ W, HoV W g s2 → Calls Try.prog 28 #[.pointer (some ⟨g, 0, none⟩), .int .i64 ep] W fun x w' => x = .returned (.agg #[.int .i64 (heldS s2 ep).1, .int .i64 (heldS s2 ep).2]) ∧ Below W.heap.size W w') := fun W hW => held_any W g s2 hW ep
    have C4 : Hid (∀ W, HoV W g s2 → Calls Try.prog 31 #[.pointer (some ⟨g, 0, none⟩), .int .i64 ep] W fun x w' => x = .returned (.bool (decide (ep = h2.floor ∨ ep = h2.top))) ∧ w' = W) := by
      intro W hW
      rw [← r2.floor, ← r2.top]
      exact counts_any W g _ _ hW.f.c1 hW.f.c2 ep
    have C5 : Hid (∀ W, HoV W g s2 → ∀ m o, Calls Try.prog 32 #[.pointer (some ⟨g, 0, none⟩), .int .i64 ep, .agg #[.int .i64 m, .int .i64 o]] W fun x w' => x = .returned (.tuple #[]) ∧ HoTo W w' g (putHo s2 ep m o)) := fun W hW m o => putHo_any W g s2 hW ep m o
    have R2 : Hid (HoR s2 h2) := r2
    rw [e2] at C3
    dsimp only at C3
    obtain ⟨n, hn⟩ : ∃ n : Nat, n = (h2.cnt ep).1 := ⟨_, rfl⟩
    obtain ⟨o, ho⟩ : ∃ o : Int, o = (h2.cnt ep).2 := ⟨_, rfl⟩
    rw [← hn, ← ho] at C3 ⊢
    obtain ⟨b, hb⟩ : ∃ b, b = decide (ep = h2.floor ∨ ep = h2.top) := ⟨_, rfl⟩
    rw [← hb] at C4
    have d1 : ¬ fl < 0 := by omega
    have d2 : ¬ ep < 1 := by omega
    have d3 : ¬ at_ < 0 := by omega
    have d4 : ¬ of ≤ at_ := by omega
    have HN : Hid (n = (h2.cnt ep).1 ∧ (b = decide (ep = h2.floor ∨ ep = h2.top))) := ⟨hn, hb⟩
    obtain ⟨res, hres⟩ : ∃ res, res = (if (ep ≠ h2.floor ∧ ep ≠ h2.top) ∨ (0 < n ∧ o ≠ of) ∨ (n : Int) < at_ then (h2, (0 : Int)) else if at_ < (n : Int) then (h2, 2) else (addH h2 ep of, 1)) := ⟨_, rfl⟩
    rw [← hres]
    have HR : Hid (res = (if (ep ≠ h2.floor ∧ ep ≠ h2.top) ∨ (0 < n ∧ o ≠ of) ∨ (n : Int) < at_ then (h2, (0 : Int)) else if at_ < (n : Int) then (h2, 2) else (addH h2 ep of, 1))) := hres
    clear h0 hr r1 r2 e2 hs1 hs2 hh2 hn ho hb hres hs ST
    go_enter Try.func23, Try.ntmps23
    go_wp2_with (go_at_call 29; refine C1.mono ?_; rintro e w1 ⟨rfl, t1⟩; refine of_stopT ?_)
    unfold StopT
    have T1 : Hid (HoTo w w1 g s1) := t1
    have c2 := C2.out w1 t1.1
    clear t1 C1 C2
    go_wp2_with (go_at_call 30; refine c2.mono ?_; rintro e w2 ⟨rfl, t2⟩; refine of_stopT ?_)
    unfold StopT
    have T2 : Hid (HoTo w w2 g s2) := T1.out.trans t2
    have c3 := C3.out w2 t2.1
    clear t2 c2 T1 C3
    go_wp2_with (go_at_call 28; refine c3.mono ?_; rintro e w3 ⟨rfl, b3⟩; refine of_stopT ?_)
    unfold StopT
    obtain ⟨W, hW⟩ : ∃ W, W = w3.alloc (.cells #[.int .i64 (n : Int), .int .i64 o] 47) := ⟨_, rfl⟩
    have T3 : Hid (HoTo w W g s2) := by
      show HoTo _ _ _ _
      rw [hW]
      exact (T2.out.add b3).add ((Below.refl _ _).alloc (Nat.le_refl _) _)
    have c4 := C4.out W T3.out.1
    have NB : Hid (W.heap[w3.heap.size]? = some (.cells #[.int .i64 (n : Int), .int .i64 o] 47 (0, 0))) := by
      show _ = _
      rw [hW]
      exact heap_new _ _ _ rfl
    rw [hW] at c4
    clear c3 T2 b3 C4
    go_wp2_with (go_at_call 31; refine of_stopT ?_)
    unfold StopT
    rw [← hW] at c4 ⊢
    have n0 : W.cell? ⟨w3.heap.size, 0, none⟩ = some (.int .i64 (n : Int)) := by rw [cell_of_row W _ _ _ _ _ NB.out]; rfl
    have n1 : W.cell? ⟨w3.heap.size, 1, none⟩ = some (.int .i64 o) := by rw [cell_of_row W _ _ _ _ _ NB.out]; rfl
    have c5 := C5.out W T3.out.1 (at_ + 1) of
    clear hW NB C5
    refine c4.mono ?_
    rintro e w4 ⟨rfl, h4⟩
    have h4 := h4.symm
    subst h4
    cases b
    · have RS : Hid (res = (h2, 0)) := by
        have := HR.out
        rw [if_pos (.inl (by have := HN.out.2; simpa using this))] at this
        exact this
      clear HR HN c5 c4
      go_wp2_with fail
      go_ret
      exact ⟨by rw [RS.out]; rfl, by rw [RS.out]; exact ⟨⟨s2, T3.out.1, R2.out⟩, T3.out.2⟩⟩
    · have HB : Hid (¬ (ep ≠ h2.floor ∧ ep ≠ h2.top)) := by
        have := HN.out.2
        show ¬ _
        have h5 := of_decide_eq_true this.symm
        rintro ⟨x, y⟩
        exact h5.elim x y
      by_cases q1 : 0 < n
      · have q1' : (n : Int) > 0 := by omega
        by_cases q2 : o = of
        · have q2' : (o != of) = false := by simpa using q2
          by_cases q3 : (n : Int) < at_
          · have RS : Hid (res = (h2, 0)) := by
              have := HR.out
              rw [if_pos (.inr (.inr q3))] at this
              exact this
            clear HR HN c5 c4 q2
            go_wp2_with fail
            go_ret
            exact ⟨by rw [RS.out]; rfl, by rw [RS.out]; exact ⟨⟨s2, T3.out.1, R2.out⟩, T3.out.2⟩⟩
          · by_cases q4 : at_ < (n : Int)
            · have RS : Hid (res = (h2, 2)) := by
                have := HR.out
                rw [if_neg (fun x => x.elim HB.out (fun x => x.elim (fun x => x.2 q2) q3)), if_pos q4] at this
                exact this
              have q4' : (n : Int) > at_ := q4
              clear HR HN c5 c4 q2
              go_wp2_with fail
              go_ret
              exact ⟨by rw [RS.out]; rfl, by rw [RS.out]; exact ⟨⟨s2, T3.out.1, R2.out⟩, T3.out.2⟩⟩
            · have RS : Hid (res = (addH h2 ep of, 1)) := by
                have := HR.out
                rw [if_neg (fun x => x.elim HB.out (fun x => x.elim (fun x => x.2 q2) q3)), if_neg q4] at this
                exact this
              have q4' : ¬ (n : Int) > at_ := q4
              have NE : Hid (at_ = (n : Int)) := by show _ = _; omega
              have ov : at_ + 1 ≤ 9223372036854775807 := by omega
              have ov2 : -9223372036854775808 ≤ at_ + 1 := by omega
              clear HR c4 q2
              go_wp2_with (go_at_call 32; refine c5.mono ?_; rintro e w5 ⟨rfl, t5⟩; refine of_stopT ?_)
              unfold StopT
              have T5 : Hid (HoldTo w w5 g (addH h2 ep of)) := by
                have t6 := T3.out.trans t5
                have r6 := put_hoR (s := s2) (h := h2) R2.out (e := ep) (o := of) (by have := HB.out; exact Classical.byContradiction fun hx => this ⟨fun y => hx (.inl y), fun y => hx (.inr y)⟩)
                rw [← HN.out.1, ← NE.out] at r6
                exact ⟨⟨_, t6.1, r6⟩, t6.2⟩
              clear t5
              go_wp2_with fail
              go_ret
              exact ⟨by rw [RS.out]; rfl, by rw [RS.out]; exact T5.out⟩
        · have RS : Hid (res = (h2, 0)) := by
            have := HR.out
            rw [if_pos (.inr (.inl ⟨q1, q2⟩))] at this
            exact this
          have q2' : (o != of) = true := by simpa using q2
          clear HR HN c5 c4 q2
          go_wp2_with fail
          go_ret
          exact ⟨by rw [RS.out]; rfl, by rw [RS.out]; exact ⟨⟨s2, T3.out.1, R2.out⟩, T3.out.2⟩⟩
      · have q1' : ¬ (n : Int) > 0 := by omega
        by_cases q3 : (n : Int) < at_
        · have RS : Hid (res = (h2, 0)) := by
            have := HR.out
            rw [if_pos (.inr (.inr q3))] at this
            exact this
          clear HR HN c5 c4
          go_wp2_with fail
          go_ret
          exact ⟨by rw [RS.out]; rfl, by rw [RS.out]; exact ⟨⟨s2, T3.out.1, R2.out⟩, T3.out.2⟩⟩
        · have q4 : ¬ at_ < (n : Int) := by omega
          have RS : Hid (res = (addH h2 ep of, 1)) := by
            have := HR.out
            rw [if_neg (fun x => x.elim HB.out (fun x => x.elim (fun x => q1 x.1) q3)), if_neg q4] at this
            exact this
          have q4' : ¬ (n : Int) > at_ := q4
          have NE : Hid (at_ = (n : Int)) := by show _ = _; omega
          have ov : at_ + 1 ≤ 9223372036854775807 := by omega
          have ov2 : -9223372036854775808 ≤ at_ + 1 := by omega
          clear HR c4
          go_wp2_with (go_at_call 32; refine c5.mono ?_; rintro e w5 ⟨rfl, t5⟩; refine of_stopT ?_)
          unfold StopT
          have T5 : Hid (HoldTo w w5 g (addH h2 ep of)) := by
            have t6 := T3.out.trans t5
            have r6 := put_hoR (s := s2) (h := h2) R2.out (e := ep) (o := of) (by have := HB.out; exact Classical.byContradiction fun hx => this ⟨fun y => hx (.inl y), fun y => hx (.inr y)⟩)
            rw [← HN.out.1, ← NE.out] at r6
            exact ⟨⟨_, t6.1, r6⟩, t6.2⟩
          clear t5
          go_wp2_with fail
          go_ret
          exact ⟨by rw [RS.out]; rfl, by rw [RS.out]; exact T5.out⟩
end Go.Proofs.Ytbigifmfbibgoaa
namespace Go.Proofs.Ytbigifmfbibgoaa
open Go Go.RowKit
set_option maxRecDepth 20000

/-! Bounds of the time at which the epoch in use was said. -/
def HoldB (h : HoldM) : Prop := 0 ≤ h.said ∧ h.said ≤ 9223372036854775807
theorem new_hoB (inc : Int) : HoldB (newH inc) := ⟨Int.le_refl _, by show (0 : Int) ≤ _; decide⟩
theorem forget_hoB {h : HoldM} (hb : HoldB h) (f t : Int) : HoldB (forgetH { h with floor := f, top := t }) := by
  unfold HoldB forgetH
  dsimp only
  have := hb.1
  have := hb.2
  split
  · exact hb
  · exact ⟨Int.le_refl _, by decide⟩
theorem lift_hoB {h : HoldM} (hb : HoldB h) (f : Int) : HoldB (liftH h f) := by
  unfold liftH
  split
  · exact forget_hoB hb _ _
  · exact hb
theorem rise_hoB {h : HoldM} (hb : HoldB h) (e : Int) : HoldB (riseH h e) := by
  unfold riseH
  split
  · exact forget_hoB hb h.floor e
  · exact hb
theorem item_hoB {h : HoldM} (hb : HoldB h) (fl ep at_ of : Int) : HoldB (itemH h fl ep at_ of).1 := by
  have h1 := rise_hoB (lift_hoB hb fl) ep
  unfold itemH
  split
  · exact hb
  · split
    · exact h1
    · split
      · exact h1
      · exact h1
theorem lead_hoB {h : HoldM} (hb : HoldB h) (sent use fl : Int) (hs : sent ≤ 9223372036854775807) : HoldB (leadH h sent use fl).1 := by
  unfold leadH
  split
  · exact hb
  · have h1 := lift_hoB hb fl
    have h2 := h1.1
    have h3 := h1.2
    dsimp only
    unfold sayH
    split
    · split
      · exact ⟨by show 0 ≤ max _ _; omega, by show max _ _ ≤ _; omega⟩
      · split
        · exact ⟨by show 0 ≤ sent; omega, hs⟩
        · exact h1
    · exact h1
theorem full_held {s : HoS} {h : HoldM} (hr : HoR s h) (e : Int) : (decide (0 < (heldS s e).1) && decide ((heldS s e).1 = (heldS s e).2)) = fullH h e := by
  rw [hr.held e]
  unfold fullH
  by_cases h1 : 0 < (h.cnt e).1
  · simp [h1]
  · simp [h1]
set_option maxHeartbeats 4000000 in
theorem live_any (w : World) (g : Nat) (h : HoldM) (hV : HoldV w g h) (hk : HoldOk h) (hb : HoldB h) (now lease : Int) :
    Calls Try.prog 18 #[.pointer (some ⟨g, 0, none⟩), .int .i64 now, .int .i64 lease] w fun x w' => x = .returned (.bool (liveH h now lease)) ∧ w' = w := by
  obtain ⟨s, hs, hr⟩ := hV
  have c7 := hs.f.c7
  have c8 := hs.f.c8
  rw [hr.use] at c7
  rw [hr.said] at c8
  have u0 := hk.use0
  obtain ⟨b1, b2⟩ := hb
  unfold liveH
  obtain ⟨u, hu⟩ : ∃ u, u = h.use := ⟨_, rfl⟩
  obtain ⟨d, hd⟩ : ∃ d, d = h.said := ⟨_, rfl⟩
  rw [← hu] at c7 u0 ⊢
  rw [← hd] at c8 b1 b2 ⊢
  clear hu hd hr hs hk
  by_cases h1 : u = 0
  · have e1 : (u == 0) = true := by simpa using h1
    rw [decide_eq_false (by omega), Bool.false_and]
    clear h1
    go_enter Try.func18, Try.ntmps18
    go_wp2_with fail
    go_ret
    exact ⟨rfl, rfl⟩
  · have e1 : (u == 0) = false := by simpa using h1
    rw [decide_eq_true (by omega), Bool.true_and]
    obtain ⟨m, hm⟩ : ∃ m, m = max now 0 := ⟨_, rfl⟩
    obtain ⟨q, hq⟩ : ∃ q, q = min m 1099511627776 := ⟨_, rfl⟩
    rw [← hm, ← hq]
    have o1 : -9223372036854775808 ≤ q - d := by omega
    have o2 : q - d ≤ 9223372036854775807 := by omega
    have HM : Hid (m = max now 0) := hm
    have HQ : Hid (q = min m 1099511627776) := hq
    clear h1 hm hq b1 b2 u0
    go_enter Try.func18, Try.ntmps18
    go_wp2_with (first
      | (refine wl_maxI rfl (.tmp 16) _ rfl now 0 m rfl rfl HM.out ?_)
      | (refine wl_minI rfl (.tmp 17) _ rfl m 1099511627776 q rfl rfl HQ.out ?_))
    go_ret
    exact ⟨rfl, rfl⟩
theorem say_hoR {s : HoS} {h : HoldM} (hr : HoR s h) (use said : Int) : HoR { s with use := use, said := said } { h with use := use, said := said } := ⟨hr.inc, hr.floor, hr.top, rfl, rfl, hr.held⟩
set_option maxHeartbeats 16000000 in
theorem lead_any (w : World) (g : Nat) (h : HoldM) (hV : HoldV w g h) (hk : HoldOk h) (sent use fl : Int) :
    Calls Try.prog 24 #[.pointer (some ⟨g, 0, none⟩), .int .i64 sent, .int .i64 use, .int .i64 fl] w fun x w' => x = .returned (.bool (leadH h sent use fl).2) ∧ HoldTo w w' g (leadH h sent use fl).1 := by
  have ST : Hid (HoldTo w w g h) := hV.stay (Below.refl _ _)
  obtain ⟨s, hs, hr⟩ := hV
  unfold leadH
  by_cases h0 : sent < 0 ∨ use < 0 ∨ fl < 0
  · rw [if_pos h0]
    clear hs hr hk
    by_cases h1 : sent < 0
    · clear h0
      go_enter Try.func24, Try.ntmps24
      go_wp2_with fail
      go_ret
      exact ⟨rfl, ST.out⟩
    by_cases h2 : use < 0
    · clear h0
      go_enter Try.func24, Try.ntmps24
      go_wp2_with fail
      go_ret
      exact ⟨rfl, ST.out⟩
    have h4 : fl < 0 := by omega
    clear h0
    go_enter Try.func24, Try.ntmps24
    go_wp2_with fail
    go_ret
    exact ⟨rfl, ST.out⟩
  · rw [if_neg h0]
    have r1 := floor_hoR hr fl
    have C1 := toFloor_any w g s hs fl
    obtain ⟨s1, hs1⟩ : ∃ s1, s1 = floorS s fl := ⟨_, rfl⟩
    rw [← hs1] at r1 C1
    have k1 := lift_ok hk fl
    obtain ⟨h1, hh1⟩ : ∃ h1, h1 = liftH h fl := ⟨_, rfl⟩
    rw [← hh1] at r1 k1 ⊢
    dsimp only
    have C2 : Hid (∀ W, HoV W g s1 → Calls Try.prog 22 #[.pointer (some ⟨g, 0, none⟩), .int .i64 use] W fun x w' => x = .returned (.bool (fullH h1 use)) ∧ Below W.heap.size W w') := by
      intro W hW
      rw [← full_held r1 use]
      exact fullHo_any W g s1 hW use
    have F1 : Hid (∀ W, HoV W g s1 → W.cell? ⟨g, 7, none⟩ = some (.int .i64 h1.use) ∧ W.cell? ⟨g, 8, none⟩ = some (.int .i64 h1.said) ∧ ∀ k, W.frozen? ⟨g, k, none⟩ = false) := by
      intro W hW
      have f := hW.f
      have e7 := f.c7
      have e8 := f.c8
      rw [r1.use] at e7
      rw [r1.said] at e8
      exact ⟨e7, e8, f.fz⟩
    have R1 : Hid (HoR s1 h1) := r1
    have K1 : Hid (HoldOk h1) := k1
    have d1 : ¬ sent < 0 := by omega
    have d2 : ¬ use < 0 := by omega
    have d3 : ¬ fl < 0 := by omega
    obtain ⟨b, hb⟩ : ∃ b, b = fullH h1 use := ⟨_, rfl⟩
    rw [← hb] at C2
    have HBB : Hid (b = fullH h1 use) := hb
    obtain ⟨r, hr1⟩ : ∃ r, r = sayH h1 sent use := ⟨_, rfl⟩
    rw [← hr1]
    obtain ⟨y, hy⟩ : ∃ y, y = (decide (0 < use) && decide (r.use = use)) := ⟨_, rfl⟩
    rw [← hy]
    obtain ⟨u, hu⟩ : ∃ u, u = h1.use := ⟨_, rfl⟩
    obtain ⟨d, hd⟩ : ∃ d, d = h1.said := ⟨_, rfl⟩
    rw [← hu, ← hd] at F1
    have HR : Hid (r = sayH h1 sent use ∧ y = (decide (0 < use) && decide (r.use = use)) ∧ u = h1.use ∧ d = h1.said) := ⟨hr1, hy, hu, hd⟩
    clear h0 hr r1 k1 hs1 hh1 hs ST hb hr1 hy hu hd hk
    go_enter Try.func24, Try.ntmps24
    go_wp2_with (go_at_call 29; refine C1.mono ?_; rintro e w1 ⟨rfl, t1⟩; refine of_stopT ?_)
    unfold StopT
    have T1 : Hid (HoTo w w1 g s1) := t1
    have c2 := C2.out w1 t1.1
    clear t1 C1 C2
    go_wp2_with (go_at_call 22; refine of_stopT ?_)
    unfold StopT
    refine c2.mono ?_
    rintro e w2 ⟨rfl, b2⟩
    have T2 : Hid (HoTo w w2 g s1) := T1.out.add b2
    obtain ⟨k7, k8, fz⟩ := F1.out w2 T2.out.1
    clear b2 c2 F1 T1
    cases b
    · have RS : Hid (r = h1 ∧ y = false) := by
        obtain ⟨a1, a2, _⟩ := HR.out
        have e1 : r = h1 := by rw [a1]; unfold sayH; rw [← HBB.out]; rfl
        refine ⟨e1, ?_⟩
        rw [a2, e1]
        by_cases hp : 0 < use
        · have : ¬ h1.use = use := fun hx => by
            have := K1.out.uses (by omega)
            rw [hx, ← HBB.out] at this
            cases this
          simp [this]
        · simp [hp]
      go_wp2_with fail
      go_ret
      exact ⟨by rw [RS.out.2]; rfl, by rw [RS.out.1]; exact ⟨⟨s1, T2.out.1, R1.out⟩, T2.out.2⟩⟩
    · by_cases q1 : use < u
      · have RS : Hid (r = h1 ∧ y = false) := by
          obtain ⟨a1, a2, a3, _⟩ := HR.out
          have e1 : r = h1 := by
            rw [a1]
            unfold sayH
            rw [← HBB.out, if_pos rfl, if_neg (by omega), if_neg (by omega)]
          refine ⟨e1, ?_⟩
          rw [a2, e1]
          have : ¬ h1.use = use := by omega
          simp [this]
        go_wp2_with fail
        go_ret
        exact ⟨by rw [RS.out.2]; rfl, by rw [RS.out.1]; exact ⟨⟨s1, T2.out.1, R1.out⟩, T2.out.2⟩⟩
      · have HP : Hid (1 ≤ use) := (K1.out.two _ (full_cnt.1 HBB.out.symm).1).2
        by_cases q2 : use = u
        · have q2' : (use == u) = true := by simpa using q2
          obtain ⟨m, hm⟩ : ∃ m, m = max sent d := ⟨_, rfl⟩
          have HM : Hid (m = max sent d) := hm
          have RS : Hid (r = { h1 with use := use, said := m } ∧ y = true) := by
            obtain ⟨a1, a2, a3, a4⟩ := HR.out
            have e1 : r = { h1 with use := use, said := m } := by
              rw [a1]
              unfold sayH
              rw [← HBB.out, if_pos rfl, if_pos (by omega), hm, a4, q2, a3, Int.max_comm]
            refine ⟨e1, ?_⟩
            rw [a2, e1]
            have := HP.out
            simp
            omega
          have T3 : Hid (HoldTo w ((w2.setCell ⟨g, 7, none⟩ (.int .i64 use)).setCell ⟨g, 8, none⟩ (.int .i64 m)) g r) := by
            have t := (T2.out.setC 7 (.int .i64 use) { s1 with use := use } rfl).setC 8 (.int .i64 m) { s1 with use := use, said := m } rfl
            show HoldTo _ _ _ _
            rw [RS.out.1]
            exact ⟨⟨_, t.1, say_hoR R1.out use m⟩, t.2⟩
          clear hm q2
          go_wp2_with (refine wl_maxI rfl (.tmp 44) (.tmp 48) rfl sent d m rfl rfl HM.out ?_)
          go_ret
          exact ⟨by rw [RS.out.2]; rfl, T3.out⟩
        · have q2' : (use == u) = false := by simpa using q2
          have RS : Hid (r = { h1 with use := use, said := sent } ∧ y = true) := by
            obtain ⟨a1, a2, a3, a4⟩ := HR.out
            have e1 : r = { h1 with use := use, said := sent } := by
              rw [a1]
              unfold sayH
              rw [← HBB.out, if_pos rfl, if_neg (by omega), if_pos (by omega)]
            refine ⟨e1, ?_⟩
            rw [a2, e1]
            have := HP.out
            simp
            omega
          have T3 : Hid (HoldTo w ((w2.setCell ⟨g, 7, none⟩ (.int .i64 use)).setCell ⟨g, 8, none⟩ (.int .i64 sent)) g r) := by
            have t := (T2.out.setC 7 (.int .i64 use) { s1 with use := use } rfl).setC 8 (.int .i64 sent) { s1 with use := use, said := sent } rfl
            show HoldTo _ _ _ _
            rw [RS.out.1]
            exact ⟨⟨_, t.1, say_hoR R1.out use sent⟩, t.2⟩
          clear q2
          go_wp2_with fail
          go_ret
          exact ⟨by rw [RS.out.2]; rfl, T3.out⟩
end Go.Proofs.Ytbigifmfbibgoaa
namespace Go.Proofs.Ytbigifmfbibgoaa
open Go.ChangeShapes Go.WideShapes Go.ChangeAt Go.WideMaps Go.WideElems Go.RowKit
set_option maxRecDepth 20000

theorem El.Ok.cellsOf {E : El} (H : E.Ok) : Try.prog.cellsOf E.elem = E.size := by
  obtain ⟨i, h1, _, h2, _⟩ := H.info
  simp [Program.cellsOf, h1, h2]

/-- A slice that comes in, of elements that are opened one by one. -/
theorem open_anyK {E : El} (HE : E.Ok) {α : Type} [Inhabited α] (row : α → Array Value) (hrow : ∀ a, (row a).size = E.size) (Q : α → Prop) {H : Type} {enc : TypeId × Value → H} {W : World} {base : Nat} {spare : Nat → Bool} {held : Bool} (Ok : DataW H → Prop)
    (elem : ∀ (fuel : Nat) (cs : List Value) (x : DataW H × List MemPlace), cs.length = E.size → Ok x.1 → DataW.trod enc Try.prog W base spare held fuel E.elem cs = some x → ∃ a, cs = (row a).toList ∧ Q a)
    {fuel : Nat} {v : Value} {x : DataW H × List MemPlace} (hf : DataW.trod enc Try.prog W base spare held fuel E.slice [v] = some x) (hOk : ∀ es sp, x.1 = .slice es sp → ∀ d ∈ es, Ok d) : ∃ C : List α, GSl E row W v C ∧ ∀ c ∈ C, Q c := by
  have hp := HE.hp
  rcases Deep.open_slice HE.hs hf with ⟨h0, _⟩ | ⟨a, len, cap, m, n, D, Pl, h0, hb, hl, hm, hmm, hxe, hx⟩
  · obtain rfl : v = .slice none 0 0 := by simpa using h0
    exact ⟨[], gsl_nil E row W, fun c hc => absurd hc (by simp)⟩
  · obtain rfl : v = .slice (some a) len cap := by simpa using h0
    rw [HE.cellsOf] at hx
    have hlm : len ≤ m := by rw [hmm]; split <;> omega
    have each : ∀ i, i < len → ∃ c : α, Q c ∧ ∀ j, j < E.size → W.cell? (a.add (i * E.size + j)) = (row c)[j]? := fun i hi => by
      obtain ⟨cs', h1, h2⟩ := hx i (by omega)
      obtain ⟨_, hlen, hcell⟩ := World.cells?_some h1
      obtain ⟨c, h3, h4⟩ := elem _ cs' _ hlen (hOk _ _ (by rw [hxe]) _ (List.mem_map.2 ⟨i, List.mem_range.2 hi, rfl⟩)) h2
      refine ⟨c, h4, fun j hj => ?_⟩
      have := hcell j hj
      rw [Deep.add_add] at this
      rw [this, h3]
      simp
    obtain ⟨f, hf⟩ := Deep.choose_lt each
    refine ⟨(List.range len).map f, ⟨some a, cap, by simp, by simpa using hl, hm, fun i hi => ?_⟩, fun c hc => ?_⟩
    · have hi' : i < len := by simpa using hi
      have h1 := (hf i hi').2
      obtain ⟨g, off, sp⟩ := a
      have hj : ∀ j, j < E.size → ∃ cur t fr, W.heap[g]? = some (.cells cur t fr) ∧ cur[off + i * E.size + j]? = (row (f i))[j]? ∧ (i * E.size + j = 0 → sp = none) := fun j hj => by
        have h2 := h1 j hj
        obtain ⟨y, hy⟩ : ∃ y, (row (f i))[j]? = some y := ⟨_, Array.getElem?_eq_getElem (by rw [hrow]; exact hj)⟩
        rw [hy] at h2 ⊢
        unfold World.cell? at h2
        split at h2
        · rename_i cur t fr hq
          have hbk : (Addr.add ⟨g, off, sp⟩ (i * E.size + j)).block = g := by unfold Addr.add; split <;> rfl
          have hof : (Addr.add ⟨g, off, sp⟩ (i * E.size + j)).off = off + i * E.size + j := by unfold Addr.add; split <;> simp_all [Nat.add_assoc]
          rw [hbk] at hq
          rw [hof] at h2
          split at h2
          · cases h2
          · rename_i hsp
            refine ⟨cur, t, fr, hq, h2, fun h0 => ?_⟩
            unfold Addr.add at hsp
            rw [if_pos h0] at hsp
            simpa using hsp
        · cases h2
      have hsp : sp = none := by
        obtain ⟨cur, t, fr, h2, h3, h4⟩ := hj 0 hp
        by_cases hi0 : i = 0
        · exact h4 (by rw [hi0]; simp)
        · have h5 := (hf 0 (by omega)).2 0 hp
          obtain ⟨y, hy⟩ : ∃ y, (row (f 0))[0]? = some y := ⟨_, Array.getElem?_eq_getElem (by rw [hrow]; exact hp)⟩
          rw [hy] at h5
          unfold World.cell? at h5
          split at h5
          · split at h5
            · cases h5
            · rename_i hs
              simpa [Addr.add] using hs
          · cases h5
      subst hsp
      obtain ⟨cur, t, fr, h2, _, _⟩ := hj 0 hp
      refine ⟨g, off, cur, t, fr, rfl, h2, fun j hjl => ?_⟩
      obtain ⟨cur', t', fr', h3, h4, _⟩ := hj j hjl
      rw [h2] at h3
      obtain ⟨rfl, rfl, rfl⟩ : cur = cur' ∧ t = t' ∧ fr = fr' := by simpa using h3
      rw [h4]
      simp
    · rw [List.mem_map] at hc
      obtain ⟨i, hi, rfl⟩ := hc
      exact (hf i (by simpa using hi)).1

/-- A list whose elements hold lists of their own: each row with the value of its inner list. -/
def NSl {α : Type} (E : El) (row : α → Value → Array Value) (R : World → α → Value → Prop) (w : World) (v : Value) (C : List α) : Prop :=
  ∃ P : List (α × Value), P.map (·.1) = C ∧ GSl E (fun p => row p.1 p.2) w v P ∧ ∀ p ∈ P, R w p.1 p.2
theorem NSl.below {α : Type} {E : El} {row : α → Value → Array Value} {R : World → α → Value → Prop} (hR : ∀ w w' a v, Below w.heap.size w w' → R w a v → R w' a v) {w w' : World} {v : Value} {C : List α} (h : NSl E row R w v C) (hb : Below w.heap.size w w') : NSl E row R w' v C := by
  obtain ⟨P, h1, h2, h3⟩ := h
  exact ⟨P, h1, h2.below hb, fun p hp => hR w w' _ _ hb (h3 p hp)⟩
theorem NSl.slice {α : Type} {E : El} {row : α → Value → Array Value} {R : World → α → Value → Prop} {w : World} {v : Value} {C : List α} (h : NSl E row R w v C) : ∃ (o : Option Addr) (cap : Nat), v = .slice o C.length cap ∧ C.length ≤ cap ∧ cap ≤ maxLen := by
  obtain ⟨P, h1, h2, _⟩ := h
  obtain ⟨o, cap, e, h4, h5⟩ := h2.slice
  have hl : P.length = C.length := by rw [← h1, List.length_map]
  rw [hl] at e h4
  exact ⟨o, cap, e, h4, h5⟩
theorem NSl.at {α : Type} {E : El} {row : α → Value → Array Value} {R : World → α → Value → Prop} {w : World} {o : Option Addr} {n cap : Nat} {C : List α} (h : NSl E row R w (.slice o n cap) C) (k : Nat) (hk : k < n) :
    ∃ g off cur t fr, ∃ (c : α) (u : Value), o = some ⟨g, off, none⟩ ∧ w.heap[g]? = some (.cells cur t fr) ∧ (∀ j, j < E.size → cur[off + k * E.size + j]? = (row c u)[j]?) ∧ C[k]? = some c ∧ R w c u := by
  obtain ⟨P, h1, h2, h3⟩ := h
  obtain ⟨g, off, cur, t, fr, c, e1, e2, e3, e4⟩ := h2.at k hk
  exact ⟨g, off, cur, t, fr, c.1, c.2, e1, e2, e3, by rw [← h1, List.getElem?_map, e4]; rfl, h3 c (List.mem_of_getElem? e4)⟩
/-- The same of one's own row. -/
def NOwn {α : Type} (E : El) (row : α → Value → Array Value) (R : World → α → Value → Prop) (w : World) (B : Nat) (v : Value) (C : List α) : Prop :=
  ∃ P : List (α × Value), P.map (·.1) = C ∧ w.ownsRow B E.elem E.size v P.length (gcells (fun p : α × Value => row p.1 p.2) P) ∧ ∀ p ∈ P, R w p.1 p.2
theorem NOwn.sl {α : Type} {E : El} {row : α → Value → Array Value} {R : World → α → Value → Prop} (hrow : ∀ a u, (row a u).size = E.size) {w : World} {B : Nat} {v : Value} {C : List α} (h : NOwn E row R w B v C) : NSl E row R w v C := by
  obtain ⟨P, h1, h2, h3⟩ := h
  exact ⟨P, h1, gsl_of h2 fun c _ => hrow c.1 c.2, h3⟩
theorem NOwn.below {α : Type} {E : El} {row : α → Value → Array Value} {R : World → α → Value → Prop} (hR : ∀ w w' a v, Below w.heap.size w w' → R w a v → R w' a v) {w w' : World} {B : Nat} {v : Value} {C : List α} (h : NOwn E row R w B v C) (hb : Below w.heap.size w w') : NOwn E row R w' B v C := by
  obtain ⟨P, h1, h2, h3⟩ := h
  exact ⟨P, h1, gown_below h2 hb, fun p hp => hR w w' _ _ hb (h3 p hp)⟩
/-- A row stays as it is while another one grows. -/
theorem own_grown {w w' : World} {b : Option Nat} (hgr : w.grownBy w' b) {B : Nat} {e : TypeId} {s : Nat} {u : Value} {m : Nat} {ys : List Value} (h : w.ownsRow B e s u m ys) (hne : ∀ g, b = some g → u.ownBlock ≠ some g) : w'.ownsRow B e s u m ys := by
  obtain ⟨h0, h1 | ⟨g, cap, cur, rfl, hB, hcur, h3⟩⟩ := h
  · exact ⟨h0, .inl h1⟩
  · refine ⟨h0, .inr ⟨g, cap, cur, rfl, hB, ?_, h3⟩⟩
    rw [hgr.block g (Array.getElem?_eq_some_iff.1 hcur).1 (fun hq => hne g hq.symm rfl)]
    exact hcur
theorem NOwn.grown {α : Type} {E : El} {row : α → Value → Array Value} {R : World → α → Value → Prop} {w w' : World} {b : Option Nat} (hgr : w.grownBy w' b) {B : Nat} {v : Value} {C : List α} (h : NOwn E row R w B v C) (hne : ∀ g, b = some g → v.ownBlock ≠ some g) (hR : ∀ a u, R w a u → R w' a u) : NOwn E row R w' B v C := by
  obtain ⟨P, h1, h2, h3⟩ := h
  exact ⟨P, h1, own_grown hgr h2 hne, fun p hp => hR _ _ (h3 p hp)⟩
end Go.Proofs.Ytbigifmfbibgoaa
namespace Go.Proofs.Ytbigifmfbibgoaa
open Go.ChangeShapes Go.WideShapes Go.ChangeAt Go.WideMaps Go.WideElems Go.RowKit
set_option maxRecDepth 20000

theorem take_one {cs : List Value} {i : Nat} {v : Value} (h : (cs.drop i).take 1 = [v]) : cs[i]? = some v := by
  have := congrArg List.head? h
  rw [List.head?_take, if_neg (by decide), List.head?_drop] at this
  simpa using this
/-- The one cell of a field. -/
theorem field_int {P : Program} {H : Type} {enc : TypeId × Value → H} {W : World} {base : Nat} {spare : Nat → Bool} {held : Bool} {n : Nat} {t : TypeId} {cs : List Value} {y : Option (DataW H × List MemPlace)} {i : Nat} {k : IntKind} (ht : P.underlying t = some (.int k)) (hc : P.cellsOf t = 1)
    (h : DataW.trod enc P W base spare held n t ((cs.drop i).take (P.cellsOf t)) = y) (hy : y.isSome = true) : ∃ z : Int, cs[i]? = some (.int k z) ∧ (Lit.int k z).wf = true := by
  obtain ⟨y', rfl⟩ := Option.isSome_iff_exists.1 hy
  obtain ⟨z, h1, _, h3⟩ := DataW.trod_int ht h
  rw [hc] at h1
  exact ⟨z, take_one h1, h3⟩
theorem field_bool {P : Program} {H : Type} {enc : TypeId × Value → H} {W : World} {base : Nat} {spare : Nat → Bool} {held : Bool} {n : Nat} {t : TypeId} {cs : List Value} {y : Option (DataW H × List MemPlace)} {i : Nat} (ht : P.underlying t = some .bool) (hc : P.cellsOf t = 1)
    (h : DataW.trod enc P W base spare held n t ((cs.drop i).take (P.cellsOf t)) = y) (hy : y.isSome = true) : ∃ b : Bool, cs[i]? = some (.bool b) := by
  obtain ⟨y', rfl⟩ := Option.isSome_iff_exists.1 hy
  obtain ⟨b, h1, _⟩ := DataW.trod_bool ht h
  rw [hc] at h1
  exact ⟨b, take_one h1⟩
theorem xs_some {α : Type} {xs : List α} {n i : Nat} (h : xs.length = n) (hi : i < n) : (xs[i]?).isSome = true := by
  rw [List.getElem?_eq_getElem (by omega)]; rfl

end Go.Proofs.Ytbigifmfbibgoaa
namespace Go.Proofs.Ytbigifmfbibgoaa
open Go.ChangeShapes Go.WideShapes Go.ChangeAt Go.WideMaps Go.WideElems Go.RowKit
set_option maxRecDepth 20000

/-! Acts: an item, or a lead. -/
structure ActH where
  lead : Bool
  floor : Int
  epoch : Int
  at_ : Int
  of_ : Int
  sent : Int
def actH (x : ActH) : Array Value := #[.bool x.lead, .int .i64 x.floor, .int .i64 x.epoch, .int .i64 x.at_, .int .i64 x.of_, .int .i64 x.sent]
def OkActH (x : ActH) : Prop := x.of_ ≤ 9223372036854775807 ∧ x.sent ≤ 9223372036854775807
def doesH (h : HoldM) (x : ActH) : HoldM × Int := if x.lead = true then ((leadH h x.sent x.epoch x.floor).1, if (leadH h x.sent x.epoch x.floor).2 = true then 1 else 0) else itemH h x.floor x.epoch x.at_ x.of_
structure HoldIn (h : HoldM) : Prop where
  ok : HoldOk h
  b : HoldB h
theorem new_hoIn (inc : Int) : HoldIn (newH inc) := ⟨new_okH inc, new_hoB inc⟩
theorem does_in {h : HoldM} (hi : HoldIn h) {x : ActH} (hx : OkActH x) : HoldIn (doesH h x).1 := by
  unfold doesH
  split
  · exact ⟨lead_ok hi.ok _ _ _, lead_hoB hi.b _ _ _ hx.2⟩
  · exact ⟨item_ok hi.ok _ _ _ _, item_hoB hi.b _ _ _ _⟩
structure ActHF (w : World) (p off : Nat) (x : ActH) : Prop where
  c0 : w.cell? ⟨p, off, none⟩ = some (.bool x.lead)
  c1 : w.cell? ⟨p, off + 1, none⟩ = some (.int .i64 x.floor)
  c2 : w.cell? ⟨p, off + 2, none⟩ = some (.int .i64 x.epoch)
  c3 : w.cell? ⟨p, off + 3, none⟩ = some (.int .i64 x.at_)
  c4 : w.cell? ⟨p, off + 4, none⟩ = some (.int .i64 x.of_)
  c5 : w.cell? ⟨p, off + 5, none⟩ = some (.int .i64 x.sent)
theorem acthf_of {w : World} {p off : Nat} {cur : Array Value} {ty : TypeId} {fr : Nat × Nat} {x : ActH} (hg : w.heap[p]? = some (.cells cur ty fr)) (hc : ∀ j, j < 6 → cur[off + j]? = (actH x)[j]?) : ActHF w p off x :=
  ⟨by rw [cell_of_row w p off cur ty fr hg]; exact hc 0 (by decide), by rw [cell_of_row w p (off + 1) cur ty fr hg]; exact hc 1 (by decide), by rw [cell_of_row w p (off + 2) cur ty fr hg]; exact hc 2 (by decide), by rw [cell_of_row w p (off + 3) cur ty fr hg]; exact hc 3 (by decide), by rw [cell_of_row w p (off + 4) cur ty fr hg]; exact hc 4 (by decide), by rw [cell_of_row w p (off + 5) cur ty fr hg]; exact hc 5 (by decide)⟩

/-! Acts that come in. -/
def zeroActH : ActH := ⟨false, 0, 0, 0, 0, 0⟩
def ActHE : El := ⟨31, 22, 6, 48, actH zeroActH⟩
theorem ActHOk : ActHE.Ok := ⟨Try.underlying22, ⟨_, Try.underlying31, rfl⟩, by kernel_rfl, rfl, by decide, by decide, by decide⟩
theorem actH_fits (x : ActH) : Fits ActHE (actH x) := ⟨rfl, by simp [actH, Value.oneCell']⟩
theorem acth_of {H : Type} {enc : TypeId × Value → H} {W : World} {base : Nat} {spare : Nat → Bool} {held : Bool} (fuel : Nat) (cs : List Value) (x : DataW H × List MemPlace) (hl : cs.length = 6)
    (h : DataW.trod enc Try.prog W base spare held fuel 31 cs = some x) : ∃ r : ActH, cs = (actH r).toList ∧ OkActH r := by
  have c3 : Try.prog.cellsOf 3 = 1 := by kernel_rfl
  have c4 : Try.prog.cellsOf 4 = 1 := by kernel_rfl
  obtain ⟨xs, n, _, hxe, _, hxl, hf⟩ := DataW.trod_struct Try.underlying31 h
  obtain ⟨n0, h0⟩ := field_bool Try.underlying4 c4 (hf 0 _ rfl) (xs_some hxl (by decide))
  obtain ⟨n1, h1, _⟩ := field_int Try.underlying3 c3 (hf 1 _ rfl) (xs_some hxl (by decide))
  obtain ⟨n2, h2, _⟩ := field_int Try.underlying3 c3 (hf 2 _ rfl) (xs_some hxl (by decide))
  obtain ⟨n3, h3, _⟩ := field_int Try.underlying3 c3 (hf 3 _ rfl) (xs_some hxl (by decide))
  obtain ⟨n4, h4, w4⟩ := field_int Try.underlying3 c3 (hf 4 _ rfl) (xs_some hxl (by decide))
  obtain ⟨n5, h5, w5⟩ := field_int Try.underlying3 c3 (hf 5 _ rfl) (xs_some hxl (by decide))
  refine ⟨⟨n0, n1, n2, n3, n4, n5⟩, ?_, (bounds_i64 w4).2, (bounds_i64 w5).2⟩
  apply List.ext_getElem?
  intro k
  refine Eq.trans ?_ (Array.getElem?_toList).symm
  rcases (show k = 0 ∨ k = 1 ∨ k = 2 ∨ k = 3 ∨ k = 4 ∨ k = 5 ∨ 6 ≤ k by omega) with rfl | rfl | rfl | rfl | rfl | rfl | hk
  · exact h0
  · exact h1
  · exact h2
  · exact h3
  · exact h4
  · exact h5
  · rw [List.getElem?_eq_none (by omega), Array.getElem?_eq_none (by simpa [actH] using hk)]
theorem open_actsH {H : Type} {enc : TypeId × Value → H} {W : World} {r : Reach} {b0 base : Nat} {spare : Nat → Bool} {held : Bool} {v : Value} {d : DataW H} {p : List MemPlace}
    (hok : Value.okWide Try.prog W r b0 22 v) (h : DataW.Trod enc Try.prog W base spare held 22 v d p) : ∃ A : List ActH, GSl ActHE actH W v A ∧ ∀ x ∈ A, OkActH x := by
  obtain ⟨fuel, hf⟩ := h
  have hv1 : v.cells.toList = [v] := by
    simp only [Value.okWide, Cell.okWide, Cell.ok, Try.underlying22] at hok
    cases v <;> simp_all [Value.cells]
  rw [hv1] at hf
  have hin : Inhabited ActH := ⟨zeroActH⟩
  exact open_anyK (E := ActHE) ActHOk actH (fun _ => rfl) OkActH (fun _ => True) (fun fuel cs x h1 _ h2 => acth_of fuel cs x h1 h2) hf (fun _ _ _ _ _ => trivial)
theorem open_actH {H : Type} {enc : TypeId × Value → H} {W : World} {r : Reach} {b0 base : Nat} {spare : Nat → Bool} {held : Bool} {v : Value} {d : DataW H} {p : List MemPlace}
    (hok : Value.okWide Try.prog W r b0 31 v) (h : DataW.Trod enc Try.prog W base spare held 31 v d p) : ∃ x : ActH, v = .agg (actH x) ∧ OkActH x := by
  have c5 : Try.prog.cellsOf 31 = 6 := by kernel_rfl
  simp only [Value.okWide, Try.underlying31] at hok
  obtain ⟨cs, rfl, hsz, _⟩ := hok
  rw [c5] at hsz
  obtain ⟨fuel, hf⟩ := h
  simp only [Value.cells] at hf
  obtain ⟨x, h1, h2⟩ := acth_of fuel cs.toList _ (by simpa using hsz) hf
  exact ⟨x, by congr 1; exact Array.ext' h1, h2⟩
set_option maxHeartbeats 8000000 in
theorem does_any (w : World) (g : Nat) (h : HoldM) (hV : HoldV w g h) (hi : HoldIn h) (x : ActH) (hx : OkActH x) :
    Calls Try.prog 13 #[.pointer (some ⟨g, 0, none⟩), .agg (actH x)] w fun e w' => e = .returned (.int .i64 (doesH h x).2) ∧ HoldTo w w' g (doesH h x).1 := by
  obtain ⟨w0, hw0⟩ : ∃ w0, w0 = w.alloc (.cells (actH x) 31) := ⟨_, rfl⟩
  have B0 : Hid (Below w.heap.size w w0) := by show Below _ _ _; rw [hw0]; exact (Below.refl _ _).alloc (Nat.le_refl _) _
  have A0 : w0.heap[w.heap.size]? = some (.cells (actH x) 31 (0, 0)) := by rw [hw0]; exact heap_new _ _ _ rfl
  have F := acthf_of (off := 0) A0 (fun j _ => by rw [Nat.zero_add])
  have k0 := F.c0
  have k1 := F.c1
  have k2 := F.c2
  have k3 := F.c3
  have k4 := F.c4
  have k5 := F.c5
  have HP : Hid (∀ w', HoldTo w0 w' g (doesH h x).1 → HoldTo w w' g (doesH h x).1) := fun w' ht => ⟨ht.1, ht.2.pre B0.out⟩
  unfold doesH at HP ⊢
  cases hl : x.lead with
  | false =>
    rw [hl] at k0 HP
    rw [if_neg (by decide)] at HP ⊢
    have HI := item_any w0 g h (hV.below B0.out) x.floor x.epoch x.at_ x.of_ hx.1
    rw [hw0] at HI k0 k1 k2 k3 k4 k5 HP
    clear F A0 hl hV hi hx B0 hw0
    go_enter Try.func13, Try.ntmps13
    go_wp2_with (go_at_call 23; refine HI.mono ?_; rintro e w1 ⟨rfl, t1⟩)
    go_ret
    exact ⟨rfl, HP.out _ t1⟩
  | true =>
    rw [hl] at k0 HP
    rw [if_pos rfl] at HP ⊢
    have HI := lead_any w0 g h (hV.below B0.out) hi.ok x.sent x.epoch x.floor
    obtain ⟨b, hb⟩ : ∃ b, b = (leadH h x.sent x.epoch x.floor).2 := ⟨_, rfl⟩
    rw [← hb] at HI ⊢
    dsimp only at HP ⊢
    rw [hw0] at HI k0 k1 k2 k3 k4 k5 HP
    clear F A0 hl hV hi hx B0 hw0 hb
    cases b
    · go_enter Try.func13, Try.ntmps13
      go_wp2_with (go_at_call 24; refine HI.mono ?_; rintro e w1 ⟨rfl, t1⟩)
      go_ret
      exact ⟨rfl, HP.out _ t1⟩
    · go_enter Try.func13, Try.ntmps13
      go_wp2_with (go_at_call 24; refine HI.mono ?_; rintro e w1 ⟨rfl, t1⟩)
      go_ret
      exact ⟨rfl, HP.out _ t1⟩
end Go.Proofs.Ytbigifmfbibgoaa
