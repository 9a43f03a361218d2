import Derived.Test.YtojhckjdkafpmaaJ26
namespace Go.Proofs.Ytojhckjdkafpmaa
open Go Go.RowKit
set_option maxRecDepth 20000

theorem stepT_2 {R : Rm} {S : Bks} {x : ActM} (h : x.kind = 2) : stepT canC hsC R S x = (layB R S x.slot).1 := by
  unfold stepT layB
  rw [if_neg (by omega), if_pos h]
  by_cases h2 : x.slot.bank = 2
  · rw [if_pos h2, if_pos h2]
  · rw [if_neg h2, if_neg h2]
    by_cases h3 : x.slot.bank = 3
    · rw [if_pos h3, if_pos h3]
    · rw [if_neg h3, if_neg h3]
theorem stepT_6 {R : Rm} {S : Bks} {x : ActM} (h : x.kind = 6) : stepT canC hsC R S x = keepT S x.slot.epoch x.slot.place := by unfold stepT; rw [if_neg (by omega), if_neg (by omega), if_neg (by omega), if_pos h]
theorem stepT_7 {R : Rm} {S : Bks} {x : ActM} (h : x.kind = 7) : stepT canC hsC R S x = (tickT R.idle R.hard x.now S).1 := by unfold stepT; rw [if_neg (by omega), if_neg (by omega), if_neg (by omega), if_neg (by omega), if_pos h]
theorem keep_num {L : List Slt} (h : InBanks L) (a b : Int) : ((goneN (bks L) a b 4 : Nat) : Int) = (L.length : Int) - ((L.filter (keptE a b)).length : Nat) := by
  have h1 := size_L L h
  have h2 := size_L (L.filter (keptE a b)) fun x hx => h x (List.mem_filter.1 hx).1
  rw [keep_L] at h2
  unfold sizeT at h1 h2
  unfold keepT at h2
  simp only at h2
  have g1 := gone_len (keptE a b) (bks L).c
  have g2 := gone_len (keptE a b) (bks L).a
  have g3 := gone_len (keptE a b) (bks L).p
  unfold goneN
  rw [if_pos (by decide), if_pos (by decide), if_pos (by decide)]
  omega
theorem slots_ref {B B' : Nat} {w w' : World} {r gr : Nat} {R : Rm} {L' : List Slt} {vl v : Value} {C : List Slt} (hv : SlotsAt B' w v C) (hB : ∀ k, B' ≤ k → ¬ footR r gr vl k) (ht : RTabTo B w w' r gr R L' vl) : SlotsAt B' w' v C := by
  obtain ⟨u, _, h2, _⟩ := ht
  exact hv.kept h2 fun k e => hB k (hv.lt k e).1
set_option maxHeartbeats 16000000 in
theorem does2_any (B n : Nat) (w : World) (g r gr : Nat) (R : Rm) (S : Bks) (L : List Slt) (v1 v2 v3 vl : Value) (h : Pl B n w g r gr R S L v1 v2 v3 vl) (x : ActM) (hk : x.kind = 2) (hc : OkC x.slot.cube) :
    Calls Try.prog 11 #[.agg (twoV g r), .agg (actV x)] w fun e w' => e = .returned (.bool true) ∧ PlTo B (n + 1) w w' g r gr R (stepT canC hsC R S x) v1 v2 v3 vl := by
  obtain rfl := h.bk
  have IX : Hid (InvX (n + 1) R (stepT canC hsC R (bks L) x)) := invx_step h.inv x hc
  obtain ⟨S1, hS1⟩ : ∃ S1, S1 = (layB R (bks L) x.slot).1 := ⟨_, rfl⟩
  have ES : Hid (stepT canC hsC R (bks L) x = S1) := by show _ = _; rw [stepT_2 hk, hS1]
  have HH0 : Hid (Pl B n w g r gr R (bks L) L v1 v2 v3 vl) := h
  obtain ⟨rn, hrn⟩ : ∃ rn, rn = (layB R (bks L) x.slot).2 := ⟨_, rfl⟩
  have OW : Hid (∀ W, TabV B W g R (bks L) v1 v2 v3 → Calls Try.prog 15 #[.pointer (some ⟨g, 0, none⟩), .agg (slotV x.slot)] W fun q w' => q = .returned (.int .i64 rn) ∧ TabTo B W w' g R S1 v1 v2 v3) := by
    intro W hW
    rw [hrn, hS1]
    exact lay_any B W g R (bks L) v1 v2 v3 hW x.slot hc h.lens
  have RW : Hid (∀ W, RTabV B W r gr R L vl → Calls Try.prog 30 #[.pointer (some ⟨r, 0, none⟩), .agg (slotV x.slot)] W fun q w' => q = .returned (.int .i64 rn) ∧ RDone B W w' r gr R vl S1) := by
    intro W hW
    rw [hrn, hS1]
    exact rlay_any B W r gr R L vl hW x.slot hc h.len h.ib
  clear hrn
  obtain ⟨w0, hw0⟩ : ∃ w0, w0 = (w.alloc (.cells #[.pointer (some ⟨g, 0, none⟩), .pointer (some ⟨r, 0, none⟩)] 29)).alloc (.cells (actV x) 40) := ⟨_, rfl⟩
  have B0 : Hid (Below w.heap.size w w0) := by show Below _ _ _; rw [hw0]; exact ((Below.refl _ _).alloc (Nat.le_refl _) _).alloc (by simp) _
  have T0 : Hid (w0.heap[w.heap.size]? = some (.cells #[.pointer (some ⟨g, 0, none⟩), .pointer (some ⟨r, 0, none⟩)] 29 (0, 0))) := by show _ = _; rw [hw0]; exact heap_past _ _ _ _ (heap_new _ _ _ rfl)
  have A0 : Hid (w0.heap[w.heap.size + 1]? = some (.cells (actV x) 40 (0, 0))) := by show _ = _; rw [hw0]; exact heap_new _ _ _ (by simp)
  have P0 : Hid (Pl B n (World.drew w0) g r gr R (bks L) L v1 v2 v3 vl) := (h.below B0.out).below (Below.refl _ _).drew
  have NT : Hid (∀ k, w.heap.size ≤ k → ¬ footT g v1 v2 v3 k) := h.noT
  have NR : Hid (∀ k, w.heap.size ≤ k → ¬ footR r gr vl k) := h.noR
  have HBB : Hid (B ≤ w.heap.size) := h.hB
  have SZ : Hid (w.heap.size + 1 < w0.heap.size) := (Array.getElem?_eq_some_iff.1 A0.out).1
  have k0 := (actf_of A0.out).c0
  rw [hk] at k0
  clear h hc hk
  clear hS1
  rw [hw0] at k0
  unfold twoV
  go_enter Try.func11, Try.ntmps11
  go_wp2_with fail
  rw [← hw0]
  clear hw0 k0
  refine region_cut (fun a a' w' => ∃ y74 y75 y76 y77 y78 y79 y80 y81 y82 y83 y84, a' = (((((((((((a.put (some 74) y74).put (some 75) y75).put (some 76) y76).put (some 77) y77).put (some 78) y78).put (some 79) y79).put (some 80) y80).put (some 81) y81).put (some 82) y82).put (some 83) y83).put (some 84) y84).put (some 4) (.bool true) ∧ ∃ L' u1 u2 u3 ul, TwoTo B (World.drew w0) w' g r gr R S1 L' v1 v2 v3 vl u1 u2 u3 ul ∧ bks L' = S1 ∧ InBanks L') ?_ ?_
  · have ne9 : Nonempty (KeepT w.heap.size (.cells #[.pointer (some ⟨g, 0, none⟩), .pointer (some ⟨r, 0, none⟩)] 29 (0, 0)) (w.heap.size + 1) (.cells (actV x) 40 (0, 0))) := ⟨⟨w0, T0.out, A0.out⟩⟩
    have e0 : ∀ z : KeepT w.heap.size (.cells #[.pointer (some ⟨g, 0, none⟩), .pointer (some ⟨r, 0, none⟩)] 29 (0, 0)) (w.heap.size + 1) (.cells (actV x) 40 (0, 0)), z.world.cell? ⟨w.heap.size, 0, none⟩ = some (.pointer (some ⟨g, 0, none⟩)) := fun z => by rw [cell_of_row _ _ _ _ _ _ z.k1]; rfl
    have e1 : ∀ z : KeepT w.heap.size (.cells #[.pointer (some ⟨g, 0, none⟩), .pointer (some ⟨r, 0, none⟩)] 29 (0, 0)) (w.heap.size + 1) (.cells (actV x) 40 (0, 0)), z.world.cell? ⟨w.heap.size, 1, none⟩ = some (.pointer (some ⟨r, 0, none⟩)) := fun z => by rw [cell_of_row _ _ _ _ _ _ z.k1]; rfl
    have e2 : ∀ z : KeepT w.heap.size (.cells #[.pointer (some ⟨g, 0, none⟩), .pointer (some ⟨r, 0, none⟩)] 29 (0, 0)) (w.heap.size + 1) (.cells (actV x) 40 (0, 0)), z.world.cell? ⟨w.heap.size + 1, 1, none⟩ = some (.int .i64 x.now) := fun z => (actf_of z.k2).c1
    have e3 : ∀ z : KeepT w.heap.size (.cells #[.pointer (some ⟨g, 0, none⟩), .pointer (some ⟨r, 0, none⟩)] 29 (0, 0)) (w.heap.size + 1) (.cells (actV x) 40 (0, 0)), z.world.cell? ⟨w.heap.size + 1, 3, none⟩ = some (.int .i64 x.slot.epoch) := fun z => (actf_of z.k2).c3
    have e4 : ∀ z : KeepT w.heap.size (.cells #[.pointer (some ⟨g, 0, none⟩), .pointer (some ⟨r, 0, none⟩)] 29 (0, 0)) (w.heap.size + 1) (.cells (actV x) 40 (0, 0)), z.world.cell? ⟨w.heap.size + 1, 4, none⟩ = some (.int .i64 x.slot.place) := fun z => (actf_of z.k2).c4
    refine region_beginS (InK w.heap.size (.cells #[.pointer (some ⟨g, 0, none⟩), .pointer (some ⟨r, 0, none⟩)] 29 (0, 0)) (w.heap.size + 1) (.cells (actV x) 40 (0, 0))) 12 rfl (by kernel_rfl) ?_
    refine region_reads 0 4 8 rfl (by kernel_rfl) (by kernel_rfl) (by kernel_rfl) (by intro d v c a w h; exact absurd h.1 (by simp)) (InK.of (w := World.drew w0) T0.out A0.out) ?_
    simp only [List.drop_zero, List.take_succ_cons, List.take_zero]
    go_big_quiet_step (rfl)
    go_big_quiet_step (rfl)
    go_big_quiet_step (rfl)
    refine qlE (E := SlotE) SlotOk rfl _ rfl (w.heap.size + 1) 2 rfl _ _ _ (slotV x.slot) (slotV_size _) (by rintro w' ⟨z, rfl⟩; exact z.k2) (fun j hj => actV_slot x j hj) ?_
    simp only [Act.put, List.setIfInBounds_toArray, List.set_cons_succ, List.set_cons_zero]
    refine wpQuiet_nil ?_
    refine region_reads 5 4 4 rfl (by kernel_rfl) (by kernel_rfl) (by kernel_rfl) (by intro d v c a w h; exact absurd h.1 (by simp)) (InK.of (w := World.drew w0) T0.out A0.out) ?_
    simp only [List.drop_succ_cons, List.drop_zero, List.take_succ_cons, List.take_zero]
    go_big_quiet_step (rfl)
    go_big_quiet_step (rfl)
    go_big_quiet_step (rfl)
    refine qlE (E := SlotE) SlotOk rfl _ rfl (w.heap.size + 1) 2 rfl _ _ _ (slotV x.slot) (slotV_size _) (by rintro w' ⟨z, rfl⟩; exact z.k2) (fun j hj => actV_slot x j hj) ?_
    simp only [Act.put, List.setIfInBounds_toArray, List.set_cons_succ, List.set_cons_zero]
    refine wpQuiet_nil ?_
    refine wpAnyH_all (rs := [4]) (by kernel_rfl) (by decide) ?_
    intro i hi
    obtain rfl := List.mem_singleton.1 hi
    refine wpOp_call rfl rfl 15 #[.tmp 75, .tmp 77] (by intro b w; have hf := Try.func15; simp [go_sem]) #[.pointer (some ⟨g, 0, none⟩), .agg (slotV x.slot)] rfl (fun v w' => v = .int .i64 rn ∧ TabTo B (World.drew w0) w' g R S1 v1 v2 v3) ((OW.out _ P0.out.two.t).mono fun e w' h => ⟨_, h.1, rfl, h.2⟩) (some 78) rfl ?_
    rintro v x1 ⟨rfl, h1⟩
    obtain ⟨u1, u2, u3, hQ1⟩ := P0.out.two.own h1
    have hP1 := hQ1.two
    have KK := h1.choose_spec.choose_spec.choose_spec.2.1
    have TX1 := KK.heap T0.out (NT.out _ (Nat.le_refl _))
    have AX1 := KK.heap A0.out (NT.out _ (by omega))
    refine ⟨InK.of TX1 AX1, ?_⟩
    simp only [Act.put, List.setIfInBounds_toArray, List.set_cons_succ, List.set_cons_zero]
    refine wpAnyH_all (rs := [9]) (by kernel_rfl) (by decide) ?_
    intro i hi
    obtain rfl := List.mem_singleton.1 hi
    refine wpOp_call rfl rfl 30 #[.tmp 80, .tmp 82] (by intro b w; have hf := Try.func30; simp [go_sem]) #[.pointer (some ⟨r, 0, none⟩), .agg (slotV x.slot)] rfl (fun v w' => v = .int .i64 rn ∧ RDone B x1 w' r gr R vl S1) ((RW.out _ hP1.rt).mono fun e w' h => ⟨_, h.1, rfl, h.2⟩) (some 83) rfl ?_
    rintro v x2 ⟨rfl, L2, h21, h22, h23⟩
    obtain ⟨ul, hQ2⟩ := hP1.ref h21
    have hP2 := hQ2.two
    have KR := h21.choose_spec.2.1
    have TX2 := KR.heap TX1 (NR.out _ (Nat.le_refl _))
    have AX2 := KR.heap AX1 (NR.out _ (by omega))
    refine ⟨InK.of TX2 AX2, ?_⟩
    simp only [Act.put, List.setIfInBounds_toArray, List.set_cons_succ, List.set_cons_zero]
    refine wpAnyH_all (rs := [10]) (by kernel_rfl) (by decide) ?_
    intro i hi
    obtain rfl := List.mem_singleton.1 hi
    refine wpOp_val (w' := x2) rfl rfl (.bool true) (by simp [go_sem]) (some 84) rfl ?_
    refine ⟨InK.of TX2 AX2, ?_⟩
    simp only [Act.put, List.setIfInBounds_toArray, List.set_cons_succ, List.set_cons_zero]
    refine wpAnyH_all (rs := [11]) (by kernel_rfl) (by decide) ?_
    intro i hi
    obtain rfl := List.mem_singleton.1 hi
    refine wpOp_assign rfl rfl _ rfl _ rfl (some 4) rfl ?_
    refine ⟨InK.of TX2 AX2, ?_⟩
    refine wpAnyH_done (by kernel_rfl) ?_ _
    exact ⟨rfl, _, _, _, _, _, _, _, _, _, _, _, rfl, L2, u1, u2, u3, ul, hQ1.trans hQ2, h22, h23⟩
  rintro a' w' ⟨y74, y75, y76, y77, y78, y79, y80, y81, y82, y83, y84, rfl, L', u1, u2, u3, ul, hP, hbk, hib⟩
  have QQ : Hid (TwoTo B w w' g r gr R S1 L' v1 v2 v3 vl u1 u2 u3 ul) := (HH0.out.two.stay (B0.out.trans ((Below.refl _ _).drew.mono B0.out.size))).trans hP
  have BK : Hid (bks L' = S1 ∧ InBanks L') := ⟨hbk, hib⟩
  clear hP hbk hib
  simp only [Act.put, List.setIfInBounds_toArray, List.set_cons_succ, List.set_cons_zero]
  go_wp2_with fail
  go_ret
  have IX1 := IX.out
  rw [ES.out] at IX1
  rw [ES.out]
  exact ⟨by simp, L', u1, u2, u3, ul, QQ.out, QQ.out.two, BK.out.1, BK.out.2, IX1, HH0.out.room⟩
set_option maxHeartbeats 16000000 in
theorem does5_any (B n : Nat) (w : World) (g r gr : Nat) (R : Rm) (S : Bks) (L : List Slt) (v1 v2 v3 vl : Value) (h : Pl B n w g r gr R S L v1 v2 v3 vl) (x : ActM) (hk : x.kind = 5) (hc : OkC x.slot.cube) :
    Calls Try.prog 11 #[.agg (twoV g r), .agg (actV x)] w fun e w' => e = .returned (.bool true) ∧ PlTo B (n + 1) w w' g r gr R (stepT canC hsC R S x) v1 v2 v3 vl := by
  obtain rfl := h.bk
  have IX : Hid (InvX (n + 1) R (stepT canC hsC R (bks L) x)) := invx_step h.inv x hc
  obtain ⟨S1, hS1⟩ : ∃ S1, S1 = bks L := ⟨_, rfl⟩
  have ES : Hid (stepT canC hsC R (bks L) x = S1) := by show _ = _; rw [stepT_no (by omega) (by omega) (by omega) (by omega) (by omega), hS1]
  have HH0 : Hid (Pl B n w g r gr R (bks L) L v1 v2 v3 vl) := h
  have RO : Hid (∀ m m', RulesR (bks L) x.slot.epoch m → RulesR (bks L) x.slot.epoch m' → m = m') := fun m m' h1 h2 => rulesR_one h1 h2
  have RL : Hid (∀ m, RulesR (bks L) x.slot.epoch m → m.length ≤ 1000000) := by
    intro m hm
    rw [hm.len]
    exact Nat.le_trans (List.length_filter_le _ _) (h.lens 2)
  have OW : Hid (∀ W, TabV B W g R (bks L) v1 v2 v3 → Calls Try.prog 33 #[.pointer (some ⟨g, 0, none⟩), .int .i64 x.slot.epoch] W fun q w' => ∃ u, q = .returned u ∧ (∃ m, RulesR (bks L) x.slot.epoch m ∧ SlotsAt W.heap.size w' u m) ∧ Below W.heap.size W w') := by
    intro W hW
    refine (rules_any B W g R (bks L) v1 v2 v3 hW x.slot.epoch (h.lens 2)).mono ?_
    rintro q w' ⟨⟨u, m, rfl, h1, h2⟩, h3⟩
    exact ⟨u, rfl, ⟨m, h1, h2⟩, h3⟩
  have RW : Hid (∀ W, RTabV B W r gr R L vl → Calls Try.prog 34 #[.pointer (some ⟨r, 0, none⟩), .int .i64 x.slot.epoch] W fun q w' => ∃ u, q = .returned u ∧ (∃ m, RulesR (bks L) x.slot.epoch m ∧ SlotsAt W.heap.size w' u m) ∧ Below W.heap.size W w') := by
    intro W hW
    refine (rrules_any B W r gr R L vl hW x.slot.epoch h.len).mono ?_
    rintro q w' ⟨⟨u, m, rfl, h1, h2⟩, h3⟩
    exact ⟨u, rfl, ⟨m, h1, h2⟩, h3⟩
  obtain ⟨w0, hw0⟩ : ∃ w0, w0 = (w.alloc (.cells #[.pointer (some ⟨g, 0, none⟩), .pointer (some ⟨r, 0, none⟩)] 29)).alloc (.cells (actV x) 40) := ⟨_, rfl⟩
  have B0 : Hid (Below w.heap.size w w0) := by show Below _ _ _; rw [hw0]; exact ((Below.refl _ _).alloc (Nat.le_refl _) _).alloc (by simp) _
  have T0 : Hid (w0.heap[w.heap.size]? = some (.cells #[.pointer (some ⟨g, 0, none⟩), .pointer (some ⟨r, 0, none⟩)] 29 (0, 0))) := by show _ = _; rw [hw0]; exact heap_past _ _ _ _ (heap_new _ _ _ rfl)
  have A0 : Hid (w0.heap[w.heap.size + 1]? = some (.cells (actV x) 40 (0, 0))) := by show _ = _; rw [hw0]; exact heap_new _ _ _ (by simp)
  have P0 : Hid (Pl B n (World.drew w0) g r gr R (bks L) L v1 v2 v3 vl) := (h.below B0.out).below (Below.refl _ _).drew
  have NT : Hid (∀ k, w.heap.size ≤ k → ¬ footT g v1 v2 v3 k) := h.noT
  have NR : Hid (∀ k, w.heap.size ≤ k → ¬ footR r gr vl k) := h.noR
  have HBB : Hid (B ≤ w.heap.size) := h.hB
  have SZ : Hid (w.heap.size + 1 < w0.heap.size) := (Array.getElem?_eq_some_iff.1 A0.out).1
  have k0 := (actf_of A0.out).c0
  rw [hk] at k0
  clear h hc hk
  have ES5 : Hid (S1 = bks L) := hS1
  clear hS1
  rw [hw0] at k0
  unfold twoV
  go_enter Try.func11, Try.ntmps11
  go_wp2_with fail
  rw [← hw0]
  clear hw0 k0
  refine region_cut (fun a a' w' => ∃ y155 y156 y157 y158 y159 y160 y161 y162 y163 y164 y165 y166 y167, a' = (((((((((((((a.put (some 155) y155).put (some 156) y156).put (some 157) y157).put (some 158) y158).put (some 159) y159).put (some 160) y160).put (some 161) y161).put (some 162) y162).put (some 163) y163).put (some 164) y164).put (some 165) y165).put (some 166) y166).put (some 167) y167).put (some 4) (.bool true) ∧ ∃ L' u1 u2 u3 ul, TwoTo B (World.drew w0) w' g r gr R S1 L' v1 v2 v3 vl u1 u2 u3 ul ∧ bks L' = S1 ∧ InBanks L') ?_ ?_
  · have ne9 : Nonempty (KeepT w.heap.size (.cells #[.pointer (some ⟨g, 0, none⟩), .pointer (some ⟨r, 0, none⟩)] 29 (0, 0)) (w.heap.size + 1) (.cells (actV x) 40 (0, 0))) := ⟨⟨w0, T0.out, A0.out⟩⟩
    have e0 : ∀ z : KeepT w.heap.size (.cells #[.pointer (some ⟨g, 0, none⟩), .pointer (some ⟨r, 0, none⟩)] 29 (0, 0)) (w.heap.size + 1) (.cells (actV x) 40 (0, 0)), z.world.cell? ⟨w.heap.size, 0, none⟩ = some (.pointer (some ⟨g, 0, none⟩)) := fun z => by rw [cell_of_row _ _ _ _ _ _ z.k1]; rfl
    have e1 : ∀ z : KeepT w.heap.size (.cells #[.pointer (some ⟨g, 0, none⟩), .pointer (some ⟨r, 0, none⟩)] 29 (0, 0)) (w.heap.size + 1) (.cells (actV x) 40 (0, 0)), z.world.cell? ⟨w.heap.size, 1, none⟩ = some (.pointer (some ⟨r, 0, none⟩)) := fun z => by rw [cell_of_row _ _ _ _ _ _ z.k1]; rfl
    have e2 : ∀ z : KeepT w.heap.size (.cells #[.pointer (some ⟨g, 0, none⟩), .pointer (some ⟨r, 0, none⟩)] 29 (0, 0)) (w.heap.size + 1) (.cells (actV x) 40 (0, 0)), z.world.cell? ⟨w.heap.size + 1, 1, none⟩ = some (.int .i64 x.now) := fun z => (actf_of z.k2).c1
    have e3 : ∀ z : KeepT w.heap.size (.cells #[.pointer (some ⟨g, 0, none⟩), .pointer (some ⟨r, 0, none⟩)] 29 (0, 0)) (w.heap.size + 1) (.cells (actV x) 40 (0, 0)), z.world.cell? ⟨w.heap.size + 1, 3, none⟩ = some (.int .i64 x.slot.epoch) := fun z => (actf_of z.k2).c3
    have e4 : ∀ z : KeepT w.heap.size (.cells #[.pointer (some ⟨g, 0, none⟩), .pointer (some ⟨r, 0, none⟩)] 29 (0, 0)) (w.heap.size + 1) (.cells (actV x) 40 (0, 0)), z.world.cell? ⟨w.heap.size + 1, 4, none⟩ = some (.int .i64 x.slot.place) := fun z => (actf_of z.k2).c4
    refine region_beginS (InK w.heap.size (.cells #[.pointer (some ⟨g, 0, none⟩), .pointer (some ⟨r, 0, none⟩)] 29 (0, 0)) (w.heap.size + 1) (.cells (actV x) 40 (0, 0))) 14 rfl (by kernel_rfl) ?_
    refine region_reads 0 5 9 rfl (by kernel_rfl) (by kernel_rfl) (by kernel_rfl) (by intro d v c a w h; exact absurd h.1 (by simp)) (InK.of (w := World.drew w0) T0.out A0.out) ?_
    simp only [List.drop_zero, List.take_succ_cons, List.take_zero]
    go_big_quiet_step (rfl)
    go_big_quiet_step (rfl)
    go_big_quiet_step (rfl)
    go_big_quiet_step (rfl)
    go_big_quiet_step (rfl)
    refine wpQuiet_nil ?_
    refine region_reads 6 5 4 rfl (by kernel_rfl) (by kernel_rfl) (by kernel_rfl) (by intro d v c a w h; exact absurd h.1 (by simp)) (InK.of (w := World.drew w0) T0.out A0.out) ?_
    simp only [List.drop_succ_cons, List.drop_zero, List.take_succ_cons, List.take_zero]
    go_big_quiet_step (rfl)
    go_big_quiet_step (rfl)
    go_big_quiet_step (rfl)
    go_big_quiet_step (rfl)
    go_big_quiet_step (rfl)
    refine wpQuiet_nil ?_
    refine wpAnyH_all (rs := [5]) (by kernel_rfl) (by decide) ?_
    intro i hi
    obtain rfl := List.mem_singleton.1 hi
    refine wpOp_call rfl rfl 33 #[.tmp 156, .tmp 159] (by intro b w; have hf := Try.func33; simp [go_sem]) #[.pointer (some ⟨g, 0, none⟩), .int .i64 x.slot.epoch] rfl (fun v w' => (∃ m, RulesR (bks L) x.slot.epoch m ∧ SlotsAt (World.drew w0).heap.size w' v m) ∧ Below (World.drew w0).heap.size (World.drew w0) w') ((OW.out _ P0.out.two.t).mono fun e w' h => by obtain ⟨u, h1, h2, h3⟩ := h; exact ⟨u, h1, h2, h3⟩) (some 160) rfl ?_
    rintro v x1 ⟨⟨m1, hm1, hv1⟩, h1⟩
    have hQ1 := P0.out.two.stay h1
    have hP1 := hQ1.two
    have TX1 := (Below.block h1 _ (Array.getElem?_eq_some_iff.1 T0.out).1).trans T0.out
    have AX1 := (Below.block h1 _ (Array.getElem?_eq_some_iff.1 A0.out).1).trans A0.out
    obtain ⟨o1, cap1, rfl, _, _⟩ := hv1.slice
    refine ⟨InK.of TX1 AX1, ?_⟩
    simp only [Act.put, List.setIfInBounds_toArray, List.set_cons_succ, List.set_cons_zero]
    refine wpAnyH_all (rs := [11]) (by kernel_rfl) (by decide) ?_
    intro i hi
    obtain rfl := List.mem_singleton.1 hi
    refine wpOp_call rfl rfl 34 #[.tmp 162, .tmp 165] (by intro b w; have hf := Try.func34; simp [go_sem]) #[.pointer (some ⟨r, 0, none⟩), .int .i64 x.slot.epoch] rfl (fun v w' => (∃ m, RulesR (bks L) x.slot.epoch m ∧ SlotsAt (World.heap x1).size w' v m) ∧ Below (World.heap x1).size x1 w') ((RW.out _ hP1.rt).mono fun e w' h => by obtain ⟨u, h1, h2, h3⟩ := h; exact ⟨u, h1, h2, h3⟩) (some 166) rfl ?_
    rintro v x2 ⟨⟨m2, hm2, hv2⟩, h2⟩
    have hQ2 := hP1.stay h2
    have hP2 := hP1.below h2
    have TX2 := (Below.block h2 _ (Array.getElem?_eq_some_iff.1 TX1).1).trans TX1
    have AX2 := (Below.block h2 _ (Array.getElem?_eq_some_iff.1 AX1).1).trans AX1
    have hv1' := hv1.below h2
    obtain rfl := RO.out _ _ hm1 hm2
    obtain ⟨o2, cap2, rfl, _, _⟩ := hv2.slice
    refine ⟨InK.of TX2 AX2, ?_⟩
    simp only [Act.put, List.setIfInBounds_toArray, List.set_cons_succ, List.set_cons_zero]
    refine wpAnyH_all (rs := [12]) (by kernel_rfl) (by decide) ?_
    intro i hi
    obtain rfl := List.mem_singleton.1 hi
    refine wpOp_call rfl rfl 16 #[.tmp 160, .tmp 166] (by intro b w; have hf := Try.func16; simp [go_sem]) #[.slice o1 m1.length cap1, .slice o2 m1.length cap2] rfl (fun v w' => v = .bool true ∧ Below (World.heap x2).size x2 w') ((rsameT_any m1 _ _ x2 hv1'.sl hv2.sl (RL.out _ hm1)).mono fun e w' h => ⟨_, h.1, rfl, h.2⟩) (some 167) rfl ?_
    rintro v x3 ⟨rfl, h3⟩
    have hP3 := hP2.below h3
    have hQ3 := hP2.stay h3
    have TX3 := (Below.block h3 _ (Array.getElem?_eq_some_iff.1 TX2).1).trans TX2
    have AX3 := (Below.block h3 _ (Array.getElem?_eq_some_iff.1 AX2).1).trans AX2
    refine ⟨InK.of TX3 AX3, ?_⟩
    simp only [Act.put, List.setIfInBounds_toArray, List.set_cons_succ, List.set_cons_zero]
    refine wpAnyH_all (rs := [13]) (by kernel_rfl) (by decide) ?_
    intro i hi
    obtain rfl := List.mem_singleton.1 hi
    refine wpOp_assign rfl rfl _ rfl _ rfl (some 4) rfl ?_
    refine ⟨InK.of TX3 AX3, ?_⟩
    refine wpAnyH_done (by kernel_rfl) ?_ _
    exact ⟨rfl, _, _, _, _, _, _, _, _, _, _, _, _, _, rfl, L, v1, v2, v3, vl, by rw [ES5.out]; exact (hQ1.trans hQ2).trans hQ3, ES5.out.symm, HH0.out.ib⟩
  rintro a' w' ⟨y155, y156, y157, y158, y159, y160, y161, y162, y163, y164, y165, y166, y167, rfl, L', u1, u2, u3, ul, hP, hbk, hib⟩
  have QQ : Hid (TwoTo B w w' g r gr R S1 L' v1 v2 v3 vl u1 u2 u3 ul) := (HH0.out.two.stay (B0.out.trans ((Below.refl _ _).drew.mono B0.out.size))).trans hP
  have BK : Hid (bks L' = S1 ∧ InBanks L') := ⟨hbk, hib⟩
  clear hP hbk hib
  simp only [Act.put, List.setIfInBounds_toArray, List.set_cons_succ, List.set_cons_zero]
  go_wp2_with fail
  go_ret
  have IX1 := IX.out
  rw [ES.out] at IX1
  rw [ES.out]
  exact ⟨by simp, L', u1, u2, u3, ul, QQ.out, QQ.out.two, BK.out.1, BK.out.2, IX1, HH0.out.room⟩
set_option maxHeartbeats 16000000 in
theorem does6_any (B n : Nat) (w : World) (g r gr : Nat) (R : Rm) (S : Bks) (L : List Slt) (v1 v2 v3 vl : Value) (h : Pl B n w g r gr R S L v1 v2 v3 vl) (x : ActM) (hk : x.kind = 6) (hc : OkC x.slot.cube) :
    Calls Try.prog 11 #[.agg (twoV g r), .agg (actV x)] w fun e w' => e = .returned (.bool true) ∧ PlTo B (n + 1) w w' g r gr R (stepT canC hsC R S x) v1 v2 v3 vl := by
  obtain rfl := h.bk
  have IX : Hid (InvX (n + 1) R (stepT canC hsC R (bks L) x)) := invx_step h.inv x hc
  obtain ⟨S1, hS1⟩ : ∃ S1, S1 = keepT (bks L) x.slot.epoch x.slot.place := ⟨_, rfl⟩
  have ES : Hid (stepT canC hsC R (bks L) x = S1) := by show _ = _; rw [stepT_6 hk, hS1]
  have HH0 : Hid (Pl B n w g r gr R (bks L) L v1 v2 v3 vl) := h
  obtain ⟨rn, hrn⟩ : ∃ rn, rn = ((goneN (bks L) x.slot.epoch x.slot.place 4 : Nat) : Int) := ⟨_, rfl⟩
  have OW : Hid (∀ W, TabV B W g R (bks L) v1 v2 v3 → Calls Try.prog 35 #[.pointer (some ⟨g, 0, none⟩), .int .i64 x.slot.epoch, .int .i64 x.slot.place] W fun q w' => q = .returned (.int .i64 rn) ∧ TabTo B W w' g R S1 v1 v2 v3) := by
    intro W hW
    rw [hrn, hS1]
    exact keep_any B W g R (bks L) v1 v2 v3 hW x.slot.epoch x.slot.place h.lens
  have RW : Hid (∀ W, RTabV B W r gr R L vl → Calls Try.prog 36 #[.pointer (some ⟨r, 0, none⟩), .int .i64 x.slot.epoch, .int .i64 x.slot.place] W fun q w' => q = .returned (.int .i64 rn) ∧ RDone B W w' r gr R vl S1) := by
    intro W hW
    rw [hrn, hS1]
    rw [keep_num h.ib]
    refine (rkeep_any B W r gr R L vl hW x.slot.epoch x.slot.place h.len).mono ?_
    rintro q w' ⟨rfl, h2⟩
    exact ⟨rfl, _, h2, keep_L _ _ _, fun y hy => h.ib y (List.mem_filter.1 hy).1⟩
  clear hrn
  obtain ⟨w0, hw0⟩ : ∃ w0, w0 = (w.alloc (.cells #[.pointer (some ⟨g, 0, none⟩), .pointer (some ⟨r, 0, none⟩)] 29)).alloc (.cells (actV x) 40) := ⟨_, rfl⟩
  have B0 : Hid (Below w.heap.size w w0) := by show Below _ _ _; rw [hw0]; exact ((Below.refl _ _).alloc (Nat.le_refl _) _).alloc (by simp) _
  have T0 : Hid (w0.heap[w.heap.size]? = some (.cells #[.pointer (some ⟨g, 0, none⟩), .pointer (some ⟨r, 0, none⟩)] 29 (0, 0))) := by show _ = _; rw [hw0]; exact heap_past _ _ _ _ (heap_new _ _ _ rfl)
  have A0 : Hid (w0.heap[w.heap.size + 1]? = some (.cells (actV x) 40 (0, 0))) := by show _ = _; rw [hw0]; exact heap_new _ _ _ (by simp)
  have P0 : Hid (Pl B n (World.drew w0) g r gr R (bks L) L v1 v2 v3 vl) := (h.below B0.out).below (Below.refl _ _).drew
  have NT : Hid (∀ k, w.heap.size ≤ k → ¬ footT g v1 v2 v3 k) := h.noT
  have NR : Hid (∀ k, w.heap.size ≤ k → ¬ footR r gr vl k) := h.noR
  have HBB : Hid (B ≤ w.heap.size) := h.hB
  have SZ : Hid (w.heap.size + 1 < w0.heap.size) := (Array.getElem?_eq_some_iff.1 A0.out).1
  have k0 := (actf_of A0.out).c0
  rw [hk] at k0
  clear h hc hk
  clear hS1
  rw [hw0] at k0
  unfold twoV
  go_enter Try.func11, Try.ntmps11
  go_wp2_with fail
  rw [← hw0]
  clear hw0 k0
  refine region_cut (fun a a' w' => ∃ y170 y171 y172 y173 y174 y175 y176 y177 y178 y179 y180 y181 y182 y183 y184 y185 y186 y187 y188, a' = (((((((((((((((((((a.put (some 170) y170).put (some 171) y171).put (some 172) y172).put (some 173) y173).put (some 174) y174).put (some 175) y175).put (some 176) y176).put (some 177) y177).put (some 178) y178).put (some 179) y179).put (some 180) y180).put (some 181) y181).put (some 182) y182).put (some 183) y183).put (some 184) y184).put (some 185) y185).put (some 186) y186).put (some 187) y187).put (some 188) y188).put (some 4) (.bool true) ∧ ∃ L' u1 u2 u3 ul, TwoTo B (World.drew w0) w' g r gr R S1 L' v1 v2 v3 vl u1 u2 u3 ul ∧ bks L' = S1 ∧ InBanks L') ?_ ?_
  · have ne9 : Nonempty (KeepT w.heap.size (.cells #[.pointer (some ⟨g, 0, none⟩), .pointer (some ⟨r, 0, none⟩)] 29 (0, 0)) (w.heap.size + 1) (.cells (actV x) 40 (0, 0))) := ⟨⟨w0, T0.out, A0.out⟩⟩
    have e0 : ∀ z : KeepT w.heap.size (.cells #[.pointer (some ⟨g, 0, none⟩), .pointer (some ⟨r, 0, none⟩)] 29 (0, 0)) (w.heap.size + 1) (.cells (actV x) 40 (0, 0)), z.world.cell? ⟨w.heap.size, 0, none⟩ = some (.pointer (some ⟨g, 0, none⟩)) := fun z => by rw [cell_of_row _ _ _ _ _ _ z.k1]; rfl
    have e1 : ∀ z : KeepT w.heap.size (.cells #[.pointer (some ⟨g, 0, none⟩), .pointer (some ⟨r, 0, none⟩)] 29 (0, 0)) (w.heap.size + 1) (.cells (actV x) 40 (0, 0)), z.world.cell? ⟨w.heap.size, 1, none⟩ = some (.pointer (some ⟨r, 0, none⟩)) := fun z => by rw [cell_of_row _ _ _ _ _ _ z.k1]; rfl
    have e2 : ∀ z : KeepT w.heap.size (.cells #[.pointer (some ⟨g, 0, none⟩), .pointer (some ⟨r, 0, none⟩)] 29 (0, 0)) (w.heap.size + 1) (.cells (actV x) 40 (0, 0)), z.world.cell? ⟨w.heap.size + 1, 1, none⟩ = some (.int .i64 x.now) := fun z => (actf_of z.k2).c1
    have e3 : ∀ z : KeepT w.heap.size (.cells #[.pointer (some ⟨g, 0, none⟩), .pointer (some ⟨r, 0, none⟩)] 29 (0, 0)) (w.heap.size + 1) (.cells (actV x) 40 (0, 0)), z.world.cell? ⟨w.heap.size + 1, 3, none⟩ = some (.int .i64 x.slot.epoch) := fun z => (actf_of z.k2).c3
    have e4 : ∀ z : KeepT w.heap.size (.cells #[.pointer (some ⟨g, 0, none⟩), .pointer (some ⟨r, 0, none⟩)] 29 (0, 0)) (w.heap.size + 1) (.cells (actV x) 40 (0, 0)), z.world.cell? ⟨w.heap.size + 1, 4, none⟩ = some (.int .i64 x.slot.place) := fun z => (actf_of z.k2).c4
    refine region_beginS (InK w.heap.size (.cells #[.pointer (some ⟨g, 0, none⟩), .pointer (some ⟨r, 0, none⟩)] 29 (0, 0)) (w.heap.size + 1) (.cells (actV x) 40 (0, 0))) 20 rfl (by kernel_rfl) ?_
    refine region_reads 0 8 12 rfl (by kernel_rfl) (by kernel_rfl) (by kernel_rfl) (by intro d v c a w h; exact absurd h.1 (by simp)) (InK.of (w := World.drew w0) T0.out A0.out) ?_
    simp only [List.drop_zero, List.take_succ_cons, List.take_zero]
    go_big_quiet_step (rfl)
    go_big_quiet_step (rfl)
    go_big_quiet_step (rfl)
    go_big_quiet_step (rfl)
    go_big_quiet_step (rfl)
    go_big_quiet_step (rfl)
    go_big_quiet_step (rfl)
    go_big_quiet_step (rfl)
    refine wpQuiet_nil ?_
    refine region_reads 9 8 4 rfl (by kernel_rfl) (by kernel_rfl) (by kernel_rfl) (by intro d v c a w h; exact absurd h.1 (by simp)) (InK.of (w := World.drew w0) T0.out A0.out) ?_
    simp only [List.drop_succ_cons, List.drop_zero, List.take_succ_cons, List.take_zero]
    go_big_quiet_step (rfl)
    go_big_quiet_step (rfl)
    go_big_quiet_step (rfl)
    go_big_quiet_step (rfl)
    go_big_quiet_step (rfl)
    go_big_quiet_step (rfl)
    go_big_quiet_step (rfl)
    go_big_quiet_step (rfl)
    refine wpQuiet_nil ?_
    refine wpAnyH_all (rs := [8]) (by kernel_rfl) (by decide) ?_
    intro i hi
    obtain rfl := List.mem_singleton.1 hi
    refine wpOp_call rfl rfl 35 #[.tmp 171, .tmp 174, .tmp 177] (by intro b w; have hf := Try.func35; simp [go_sem]) #[.pointer (some ⟨g, 0, none⟩), .int .i64 x.slot.epoch, .int .i64 x.slot.place] rfl (fun v w' => v = .int .i64 rn ∧ TabTo B (World.drew w0) w' g R S1 v1 v2 v3) ((OW.out _ P0.out.two.t).mono fun e w' h => ⟨_, h.1, rfl, h.2⟩) (some 178) rfl ?_
    rintro v x1 ⟨rfl, h1⟩
    obtain ⟨u1, u2, u3, hQ1⟩ := P0.out.two.own h1
    have hP1 := hQ1.two
    have KK := h1.choose_spec.choose_spec.choose_spec.2.1
    have TX1 := KK.heap T0.out (NT.out _ (Nat.le_refl _))
    have AX1 := KK.heap A0.out (NT.out _ (by omega))
    refine ⟨InK.of TX1 AX1, ?_⟩
    simp only [Act.put, List.setIfInBounds_toArray, List.set_cons_succ, List.set_cons_zero]
    refine wpAnyH_all (rs := [17]) (by kernel_rfl) (by decide) ?_
    intro i hi
    obtain rfl := List.mem_singleton.1 hi
    refine wpOp_call rfl rfl 36 #[.tmp 180, .tmp 183, .tmp 186] (by intro b w; have hf := Try.func36; simp [go_sem]) #[.pointer (some ⟨r, 0, none⟩), .int .i64 x.slot.epoch, .int .i64 x.slot.place] rfl (fun v w' => v = .int .i64 rn ∧ RDone B x1 w' r gr R vl S1) ((RW.out _ hP1.rt).mono fun e w' h => ⟨_, h.1, rfl, h.2⟩) (some 187) rfl ?_
    rintro v x2 ⟨rfl, L2, h21, h22, h23⟩
    obtain ⟨ul, hQ2⟩ := hP1.ref h21
    have hP2 := hQ2.two
    have KR := h21.choose_spec.2.1
    have TX2 := KR.heap TX1 (NR.out _ (Nat.le_refl _))
    have AX2 := KR.heap AX1 (NR.out _ (by omega))
    refine ⟨InK.of TX2 AX2, ?_⟩
    simp only [Act.put, List.setIfInBounds_toArray, List.set_cons_succ, List.set_cons_zero]
    refine wpAnyH_all (rs := [18]) (by kernel_rfl) (by decide) ?_
    intro i hi
    obtain rfl := List.mem_singleton.1 hi
    refine wpOp_val (w' := x2) rfl rfl (.bool true) (by simp [go_sem]) (some 188) rfl ?_
    refine ⟨InK.of TX2 AX2, ?_⟩
    simp only [Act.put, List.setIfInBounds_toArray, List.set_cons_succ, List.set_cons_zero]
    refine wpAnyH_all (rs := [19]) (by kernel_rfl) (by decide) ?_
    intro i hi
    obtain rfl := List.mem_singleton.1 hi
    refine wpOp_assign rfl rfl _ rfl _ rfl (some 4) rfl ?_
    refine ⟨InK.of TX2 AX2, ?_⟩
    refine wpAnyH_done (by kernel_rfl) ?_ _
    exact ⟨rfl, _, _, _, _, _, _, _, _, _, _, _, _, _, _, _, _, _, _, _, rfl, L2, u1, u2, u3, ul, hQ1.trans hQ2, h22, h23⟩
  rintro a' w' ⟨y170, y171, y172, y173, y174, y175, y176, y177, y178, y179, y180, y181, y182, y183, y184, y185, y186, y187, y188, rfl, L', u1, u2, u3, ul, hP, hbk, hib⟩
  have QQ : Hid (TwoTo B w w' g r gr R S1 L' v1 v2 v3 vl u1 u2 u3 ul) := (HH0.out.two.stay (B0.out.trans ((Below.refl _ _).drew.mono B0.out.size))).trans hP
  have BK : Hid (bks L' = S1 ∧ InBanks L') := ⟨hbk, hib⟩
  clear hP hbk hib
  simp only [Act.put, List.setIfInBounds_toArray, List.set_cons_succ, List.set_cons_zero]
  go_wp2_with fail
  go_ret
  have IX1 := IX.out
  rw [ES.out] at IX1
  rw [ES.out]
  exact ⟨by simp, L', u1, u2, u3, ul, QQ.out, QQ.out.two, BK.out.1, BK.out.2, IX1, HH0.out.room⟩
set_option maxHeartbeats 16000000 in
theorem does7_any (B n : Nat) (w : World) (g r gr : Nat) (R : Rm) (S : Bks) (L : List Slt) (v1 v2 v3 vl : Value) (h : Pl B n w g r gr R S L v1 v2 v3 vl) (x : ActM) (hk : x.kind = 7) (hc : OkC x.slot.cube) :
    Calls Try.prog 11 #[.agg (twoV g r), .agg (actV x)] w fun e w' => e = .returned (.bool true) ∧ PlTo B (n + 1) w w' g r gr R (stepT canC hsC R S x) v1 v2 v3 vl := by
  obtain rfl := h.bk
  have IX : Hid (InvX (n + 1) R (stepT canC hsC R (bks L) x)) := invx_step h.inv x hc
  obtain ⟨S1, hS1⟩ : ∃ S1, S1 = (tickT R.idle R.hard x.now (bks L)).1 := ⟨_, rfl⟩
  have ES : Hid (stepT canC hsC R (bks L) x = S1) := by show _ = _; rw [stepT_7 hk, hS1]
  have HH0 : Hid (Pl B n w g r gr R (bks L) L v1 v2 v3 vl) := h
  obtain ⟨C, hC⟩ : ∃ C, C = (tickT R.idle R.hard x.now (bks L)).2 := ⟨_, rfl⟩
  have CL : Hid (C.length ≤ 1000000) := by show _ ≤ _; rw [hC]; exact Nat.le_trans (List.length_filter_le _ _) (h.lens 1)
  have OW : Hid (∀ W, TabV B W g R (bks L) v1 v2 v3 → Calls Try.prog 24 #[.pointer (some ⟨g, 0, none⟩), .int .i64 x.now] W fun q w' => ∃ u, q = .returned u ∧ SlotsAt W.heap.size w' u C ∧ TabTo B W w' g R S1 v1 v2 v3) := by
    intro W hW
    rw [hC, hS1]
    exact tick_any B W g R (bks L) v1 v2 v3 hW x.now (h.lens 1) fun y hy => by have h9 := h.inv.inv.c y hy; exact ⟨h9.2.2.2.1, h9.2.2.2.2.1, h9.2.2.2.2.2.1, h9.2.2.2.2.2.2.1⟩
  have RW : Hid (∀ W, RTabV B W r gr R L vl → Calls Try.prog 37 #[.pointer (some ⟨r, 0, none⟩), .int .i64 x.now] W fun q w' => ∃ u, q = .returned u ∧ SlotsAt W.heap.size w' u C ∧ RDone B W w' r gr R vl S1) := by
    intro W hW
    have e1 := tick_L R.idle R.hard x.now L
    rw [hC, hS1, e1]
    refine (rtick_any B W r gr R L vl hW x.now h.len fun y hy => by obtain ⟨b, h9⟩ := h.all y hy; exact ⟨h9.2.2.2.1, h9.2.2.2.2.1, h9.2.2.2.2.2.1, h9.2.2.2.2.2.2.1⟩).mono ?_
    rintro q w' ⟨⟨u, rfl, h1⟩, h2⟩
    exact ⟨u, rfl, h1, _, h2, rfl, fun y hy => h.ib y (List.mem_filter.1 hy).1⟩
  clear hC
  obtain ⟨w0, hw0⟩ : ∃ w0, w0 = (w.alloc (.cells #[.pointer (some ⟨g, 0, none⟩), .pointer (some ⟨r, 0, none⟩)] 29)).alloc (.cells (actV x) 40) := ⟨_, rfl⟩
  have B0 : Hid (Below w.heap.size w w0) := by show Below _ _ _; rw [hw0]; exact ((Below.refl _ _).alloc (Nat.le_refl _) _).alloc (by simp) _
  have T0 : Hid (w0.heap[w.heap.size]? = some (.cells #[.pointer (some ⟨g, 0, none⟩), .pointer (some ⟨r, 0, none⟩)] 29 (0, 0))) := by show _ = _; rw [hw0]; exact heap_past _ _ _ _ (heap_new _ _ _ rfl)
  have A0 : Hid (w0.heap[w.heap.size + 1]? = some (.cells (actV x) 40 (0, 0))) := by show _ = _; rw [hw0]; exact heap_new _ _ _ (by simp)
  have P0 : Hid (Pl B n (World.drew w0) g r gr R (bks L) L v1 v2 v3 vl) := (h.below B0.out).below (Below.refl _ _).drew
  have NT : Hid (∀ k, w.heap.size ≤ k → ¬ footT g v1 v2 v3 k) := h.noT
  have NR : Hid (∀ k, w.heap.size ≤ k → ¬ footR r gr vl k) := h.noR
  have HBB : Hid (B ≤ w.heap.size) := h.hB
  have SZ : Hid (w.heap.size + 1 < w0.heap.size) := (Array.getElem?_eq_some_iff.1 A0.out).1
  have k0 := (actf_of A0.out).c0
  rw [hk] at k0
  clear h hc hk
  clear hS1
  rw [hw0] at k0
  unfold twoV
  go_enter Try.func11, Try.ntmps11
  go_wp2_with fail
  rw [← hw0]
  clear hw0 k0
  refine region_cut (fun a a' w' => ∃ y191 y192 y193 y194 y195 y196 y197 y198 y199 y200 y201, a' = (((((((((((a.put (some 191) y191).put (some 192) y192).put (some 193) y193).put (some 194) y194).put (some 195) y195).put (some 196) y196).put (some 197) y197).put (some 198) y198).put (some 199) y199).put (some 200) y200).put (some 201) y201).put (some 4) (.bool true) ∧ ∃ L' u1 u2 u3 ul, TwoTo B (World.drew w0) w' g r gr R S1 L' v1 v2 v3 vl u1 u2 u3 ul ∧ bks L' = S1 ∧ InBanks L') ?_ ?_
  · have ne9 : Nonempty (KeepT w.heap.size (.cells #[.pointer (some ⟨g, 0, none⟩), .pointer (some ⟨r, 0, none⟩)] 29 (0, 0)) (w.heap.size + 1) (.cells (actV x) 40 (0, 0))) := ⟨⟨w0, T0.out, A0.out⟩⟩
    have e0 : ∀ z : KeepT w.heap.size (.cells #[.pointer (some ⟨g, 0, none⟩), .pointer (some ⟨r, 0, none⟩)] 29 (0, 0)) (w.heap.size + 1) (.cells (actV x) 40 (0, 0)), z.world.cell? ⟨w.heap.size, 0, none⟩ = some (.pointer (some ⟨g, 0, none⟩)) := fun z => by rw [cell_of_row _ _ _ _ _ _ z.k1]; rfl
    have e1 : ∀ z : KeepT w.heap.size (.cells #[.pointer (some ⟨g, 0, none⟩), .pointer (some ⟨r, 0, none⟩)] 29 (0, 0)) (w.heap.size + 1) (.cells (actV x) 40 (0, 0)), z.world.cell? ⟨w.heap.size, 1, none⟩ = some (.pointer (some ⟨r, 0, none⟩)) := fun z => by rw [cell_of_row _ _ _ _ _ _ z.k1]; rfl
    have e2 : ∀ z : KeepT w.heap.size (.cells #[.pointer (some ⟨g, 0, none⟩), .pointer (some ⟨r, 0, none⟩)] 29 (0, 0)) (w.heap.size + 1) (.cells (actV x) 40 (0, 0)), z.world.cell? ⟨w.heap.size + 1, 1, none⟩ = some (.int .i64 x.now) := fun z => (actf_of z.k2).c1
    have e3 : ∀ z : KeepT w.heap.size (.cells #[.pointer (some ⟨g, 0, none⟩), .pointer (some ⟨r, 0, none⟩)] 29 (0, 0)) (w.heap.size + 1) (.cells (actV x) 40 (0, 0)), z.world.cell? ⟨w.heap.size + 1, 3, none⟩ = some (.int .i64 x.slot.epoch) := fun z => (actf_of z.k2).c3
    have e4 : ∀ z : KeepT w.heap.size (.cells #[.pointer (some ⟨g, 0, none⟩), .pointer (some ⟨r, 0, none⟩)] 29 (0, 0)) (w.heap.size + 1) (.cells (actV x) 40 (0, 0)), z.world.cell? ⟨w.heap.size + 1, 4, none⟩ = some (.int .i64 x.slot.place) := fun z => (actf_of z.k2).c4
    refine region_beginS (InK w.heap.size (.cells #[.pointer (some ⟨g, 0, none⟩), .pointer (some ⟨r, 0, none⟩)] 29 (0, 0)) (w.heap.size + 1) (.cells (actV x) 40 (0, 0))) 12 rfl (by kernel_rfl) ?_
    refine region_reads 0 4 8 rfl (by kernel_rfl) (by kernel_rfl) (by kernel_rfl) (by intro d v c a w h; exact absurd h.1 (by simp)) (InK.of (w := World.drew w0) T0.out A0.out) ?_
    simp only [List.drop_zero, List.take_succ_cons, List.take_zero]
    go_big_quiet_step (rfl)
    go_big_quiet_step (rfl)
    go_big_quiet_step (rfl)
    go_big_quiet_step (rfl)
    refine wpQuiet_nil ?_
    refine region_reads 5 4 4 rfl (by kernel_rfl) (by kernel_rfl) (by kernel_rfl) (by intro d v c a w h; exact absurd h.1 (by simp)) (InK.of (w := World.drew w0) T0.out A0.out) ?_
    simp only [List.drop_succ_cons, List.drop_zero, List.take_succ_cons, List.take_zero]
    go_big_quiet_step (rfl)
    go_big_quiet_step (rfl)
    go_big_quiet_step (rfl)
    go_big_quiet_step (rfl)
    refine wpQuiet_nil ?_
    refine wpAnyH_all (rs := [4]) (by kernel_rfl) (by decide) ?_
    intro i hi
    obtain rfl := List.mem_singleton.1 hi
    refine wpOp_call rfl rfl 24 #[.tmp 192, .tmp 194] (by intro b w; have hf := Try.func24; simp [go_sem]) #[.pointer (some ⟨g, 0, none⟩), .int .i64 x.now] rfl (fun v w' => SlotsAt (World.drew w0).heap.size w' v C ∧ TabTo B (World.drew w0) w' g R S1 v1 v2 v3) ((OW.out _ P0.out.two.t).mono fun e w' h => by obtain ⟨u, h1, h2, h3⟩ := h; exact ⟨u, h1, h2, h3⟩) (some 195) rfl ?_
    rintro v x1 ⟨hv1, h1⟩
    obtain ⟨u1, u2, u3, hQ1⟩ := P0.out.two.own h1
    have hP1 := hQ1.two
    have KK := h1.choose_spec.choose_spec.choose_spec.2.1
    have TX1 := KK.heap T0.out (NT.out _ (Nat.le_refl _))
    have AX1 := KK.heap A0.out (NT.out _ (by omega))
    obtain ⟨o1, cap1, rfl, _, _⟩ := hv1.slice
    refine ⟨InK.of TX1 AX1, ?_⟩
    simp only [Act.put, List.setIfInBounds_toArray, List.set_cons_succ, List.set_cons_zero]
    refine wpAnyH_all (rs := [9]) (by kernel_rfl) (by decide) ?_
    intro i hi
    obtain rfl := List.mem_singleton.1 hi
    refine wpOp_call rfl rfl 37 #[.tmp 197, .tmp 199] (by intro b w; have hf := Try.func37; simp [go_sem]) #[.pointer (some ⟨r, 0, none⟩), .int .i64 x.now] rfl (fun v w' => SlotsAt (World.heap x1).size w' v C ∧ RDone B x1 w' r gr R vl S1) ((RW.out _ hP1.rt).mono fun e w' h => by obtain ⟨u, h1, h2, h3⟩ := h; exact ⟨u, h1, h2, h3⟩) (some 200) rfl ?_
    rintro v x2 ⟨hv2, L2, h21, h22, h23⟩
    obtain ⟨ul, hQ2⟩ := hP1.ref h21
    have hP2 := hQ2.two
    have KR := h21.choose_spec.2.1
    have TX2 := KR.heap TX1 (NR.out _ (Nat.le_refl _))
    have AX2 := KR.heap AX1 (NR.out _ (by omega))
    have hv1' := slots_ref hv1 (fun k hk => NR.out k (by have h9 := SZ.out; have h8 : (World.drew w0).heap.size = w0.heap.size := rfl; omega)) h21
    obtain ⟨o2, cap2, rfl, _, _⟩ := hv2.slice
    refine ⟨InK.of TX2 AX2, ?_⟩
    simp only [Act.put, List.setIfInBounds_toArray, List.set_cons_succ, List.set_cons_zero]
    refine wpAnyH_all (rs := [10]) (by kernel_rfl) (by decide) ?_
    intro i hi
    obtain rfl := List.mem_singleton.1 hi
    refine wpOp_call rfl rfl 16 #[.tmp 195, .tmp 200] (by intro b w; have hf := Try.func16; simp [go_sem]) #[.slice o1 C.length cap1, .slice o2 C.length cap2] rfl (fun v w' => v = .bool true ∧ Below (World.heap x2).size x2 w') ((rsameT_any C _ _ x2 hv1'.sl hv2.sl CL.out).mono fun e w' h => ⟨_, h.1, rfl, h.2⟩) (some 201) rfl ?_
    rintro v x3 ⟨rfl, h3⟩
    have hP3 := hP2.below h3
    have hQ3 := hP2.stay h3
    have TX3 := (Below.block h3 _ (Array.getElem?_eq_some_iff.1 TX2).1).trans TX2
    have AX3 := (Below.block h3 _ (Array.getElem?_eq_some_iff.1 AX2).1).trans AX2
    refine ⟨InK.of TX3 AX3, ?_⟩
    simp only [Act.put, List.setIfInBounds_toArray, List.set_cons_succ, List.set_cons_zero]
    refine wpAnyH_all (rs := [11]) (by kernel_rfl) (by decide) ?_
    intro i hi
    obtain rfl := List.mem_singleton.1 hi
    refine wpOp_assign rfl rfl _ rfl _ rfl (some 4) rfl ?_
    refine ⟨InK.of TX3 AX3, ?_⟩
    refine wpAnyH_done (by kernel_rfl) ?_ _
    exact ⟨rfl, _, _, _, _, _, _, _, _, _, _, _, rfl, L2, u1, u2, u3, ul, (hQ1.trans hQ2).trans hQ3, h22, h23⟩
  rintro a' w' ⟨y191, y192, y193, y194, y195, y196, y197, y198, y199, y200, y201, rfl, L', u1, u2, u3, ul, hP, hbk, hib⟩
  have QQ : Hid (TwoTo B w w' g r gr R S1 L' v1 v2 v3 vl u1 u2 u3 ul) := (HH0.out.two.stay (B0.out.trans ((Below.refl _ _).drew.mono B0.out.size))).trans hP
  have BK : Hid (bks L' = S1 ∧ InBanks L') := ⟨hbk, hib⟩
  clear hP hbk hib
  simp only [Act.put, List.setIfInBounds_toArray, List.set_cons_succ, List.set_cons_zero]
  go_wp2_with fail
  go_ret
  have IX1 := IX.out
  rw [ES.out] at IX1
  rw [ES.out]
  exact ⟨by simp, L', u1, u2, u3, ul, QQ.out, QQ.out.two, BK.out.1, BK.out.2, IX1, HH0.out.room⟩
end Go.Proofs.Ytojhckjdkafpmaa
