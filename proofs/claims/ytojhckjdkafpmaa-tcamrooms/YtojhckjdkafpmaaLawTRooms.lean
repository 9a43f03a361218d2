import Derived.Test.YtojhckjdkafpmaaTcPlay2
namespace Go.Proofs.Ytojhckjdkafpmaa
open Go Go.RowKit
set_option maxRecDepth 20000

def lay7 : Slt := ⟨2, -7, -7, 0, (List.replicate 13 0, List.replicate 13 0), 0, 0, 0, 0, 0, 0⟩
theorem lay7_ok : OkC lay7.cube := zeroS_ok
theorem slot_lay7 : slotV lay7 = #[.int .i64 2, .int .i64 (-7), .int .i64 (-7), .int .i64 0] ++ zeroC ++ #[.int .i64 0, .int .i64 0, .int .i64 0, .int .i64 0, .int .i64 0, .int .i64 0] := by
  unfold slotV lay7
  simp only [pad_id (L := List.replicate 13 0) (by simp), zeroC_eq, Z_eq]
  rfl
theorem build_lay7 (W : World) : (Instr.build 38 #[(0, .int .i64 2), (1, .int .i64 (-7)), (2, .int .i64 (-7))]).run Try.prog W = .ok (.agg (slotV lay7)) W := by rw [slot_lay7]; kernel_rfl
set_option maxHeartbeats 32000000 in
theorem lawRooms (c a q i h : Int) (A : List ActM) (lv : Value) (w : World) (hl : GSl ActE actV w lv A) (hA : ∀ x ∈ A, OkA x) :
    Calls Try.prog 4 #[.agg (roomA c a q i h), lv] w fun e w' => e = .returned (.bool true) ∧ Below w.heap.size w w' := by
  have AW : Hid (∀ W, Calls Try.prog 9 #[] W fun r w' => r = .returned (.bool true) ∧ Below W.heap.size W w') := awakeT_any
  obtain ⟨o, cap, rfl, hc1, hc2⟩ := hl.slice
  obtain ⟨n, hn0⟩ : ∃ n, n = A.length := ⟨_, rfl⟩
  rw [← hn0] at hl hc1
  rw [← hn0]
  have HL0 : Hid (GSl ActE actV w (.slice o n cap) A) := hl
  have HA : Hid (∀ x ∈ A, OkA x) := hA
  unfold maxLen at hc2
  clear hl hA hn0
  have R0 : Hid ((w.alloc (.cells (roomA c a q i h) 23)).heap[w.heap.size]? = some (.cells (roomA c a q i h) 23 (0, 0))) := heap_new _ _ _ rfl
  have B0 : Hid (Below w.heap.size w (w.alloc (.cells (roomA c a q i h) 23))) := (Below.refl _ _).alloc (Nat.le_refl _) _
  have haw := AW.out (w.alloc (.cells (roomA c a q i h) 23))
  go_enter Try.func4, Try.ntmps4
  go_wp2_with (go_at_call 9; refine haw.mono ?_; rintro e w1 ⟨rfl, hb1⟩; refine of_stopS ?_)
  unfold StopS
  have B1 : Hid (Below w.heap.size w w1) := below_step B0.out B0.out.size hb1
  have R1 : Hid (w1.heap[w.heap.size]? = some (.cells (roomA c a q i h) 23 (0, 0))) := (hb1.block _ (Array.getElem?_eq_some_iff.1 R0.out).1).trans R0.out
  have HL : Hid (GSl ActE actV w1 (.slice o n cap) A) := GSl.below HL0.out B1.out
  clear hb1 haw R0 B0 AW HL0
  by_cases hr : OkR c a q i h
  · have hop := open_yes c a q i h hr w1
    have HR : Hid (OkR c a q i h) := hr
    clear hr
    go_wp2_with (first | ((with_reducible refine wl_gT 23 _ rfl ?_); refine wl_ldT rfl 23 _ rfl ⟨w.heap.size, 0, none⟩ rfl (.agg (roomA c a q i h)) (room_load R1.out) ?_) | (go_at_call 10; refine hop.mono ?_; rintro e w2 ⟨g, r, gr, rfl, hT2, hb2⟩; refine of_stopS ?_))
    unfold StopS
    obtain ⟨p, hp⟩ : ∃ p, p = w2.heap.size := ⟨_, rfl⟩
    obtain ⟨B, hBB⟩ : ∃ B, B = w1.heap.size := ⟨_, rfl⟩
    obtain ⟨R, hRR⟩ : ∃ R, R = rmOf c a q i h := ⟨_, rfl⟩
    obtain ⟨w3, hw3⟩ : ∃ w3, w3 = w2.alloc (.cells #[.pointer (some ⟨g, 0, none⟩), .pointer (some ⟨r, 0, none⟩)] 29) := ⟨_, rfl⟩
    have RR : Hid (Run w1 B 0 w3 p g r gr R ⟨[], [], []⟩ [] (.slice none 0 0) (.slice none 0 0) (.slice none 0 0) (.slice none 0 0)) := by rw [hp, hBB, hRR]; exact begin_run HR.out (Below.refl _ _) hT2 hb2 hw3
    have HRR : Hid (R = rmOf c a q i h) := hRR
    have T3 : Hid (w3.heap[w2.heap.size]? = some (.cells #[.pointer (some ⟨g, 0, none⟩), .pointer (some ⟨r, 0, none⟩)] 29 (0, 0))) := by rw [← hp]; exact RR.out.blk
    have t3 : w3.cell? ⟨w2.heap.size, 1, none⟩ = some (.pointer (some ⟨r, 0, none⟩)) := by rw [cell_of_row _ _ _ _ _ _ T3.out]; rfl
    have t0 : w3.cell? ⟨w2.heap.size, 0, none⟩ = some (.pointer (some ⟨g, 0, none⟩)) := by rw [cell_of_row _ _ _ _ _ _ T3.out]; rfl
    rw [hw3] at t3 t0
    clear hT2 hb2 hop hRR hBB
    go_wp2_with fail
    rw [← hw3, ← hp]
    clear hw3 hp t3 t0 T3
    go_loopw [7] (fun s7 wr => ∃ (k : Nat), k ≤ n ∧ k ≤ 60 ∧ s7 = .int .i64 (k : Int) ∧ Hid (RunE w1 B k wr p g r gr R (playS R ⟨[], [], []⟩ (A.take k)))) (fun s7 _ => 60 - (intOf s7).toNat)
    case atStart => exact ⟨0, Nat.zero_le _, Nat.zero_le _, rfl, _, _, _, _, _, RR.out⟩
    case round =>
      clear RR
      obtain ⟨k, hk, hk60, rfl, HRE⟩ := hrel
      by_cases hlt : k < n
      · have hlt' : (k : Int) < (n : Int) := by omega
        by_cases hl6 : k < 60
        · have hl6' : (k : Int) < 60 := by omega
          obtain ⟨g', off, x, rfl, hx, hox, hld⟩ := act_ld HL.out HA.out k hlt
          have LX : Hid _ := hld
          have OX : Hid (OkA x) := hox
          have HX : Hid (A[k]? = some x) := hx
          obtain ⟨S, hS⟩ : ∃ S, S = playS R ⟨[], [], []⟩ (A.take k) := ⟨_, rfl⟩
          have HS : Hid (playS R ⟨[], [], []⟩ (A.take (k + 1)) = stepT canC hsC R S x) := by show _ = _; rw [List.take_add_one, hx, hS]; exact playS_snoc _ _ _ _
          rw [← hS] at HRE
          obtain ⟨L, v1, v2, v3, vl, hRN⟩ := HRE.out
          have HRN : Hid (Run w1 B k wr p g r gr R S L v1 v2 v3 vl) := hRN
          have RD := hRN.stay (w1 := World.drew wr) (Below.refl _ _).drew
          clear hld hox hx hS HRE hRN
          go_wp2_with fail
          refine region_cut (fun a a' w' => ∃ y35 y36 y37 y38 y39, a' = (((((a.put (some 35) y35).put (some 36) y36).put (some 37) y37).put (some 38) y38).put (some 39) y39).put (some 40) (.bool true) ∧ RunE w1 B (k + 1) w' p g r gr R (stepT canC hsC R S x)) ?_ ?_
          · have ne9 : Nonempty (KeepL w1 p (.cells (twoV g r) 29 (0, 0))) := ⟨⟨wr, HRN.out.below, HRN.out.blk⟩⟩
            refine region_beginS (InL w1 p (.cells (twoV g r) 29 (0, 0))) 6 rfl (by kernel_rfl) ?_
            refine region_reads 0 5 1 rfl (by kernel_rfl) (by kernel_rfl) (by kernel_rfl) (by intro d v c a w h; exact absurd h.1 (by simp)) (InL.of RD.below RD.blk) ?_
            simp only [List.drop_zero, List.take_succ_cons, List.take_zero]
            refine q_ldT rfl 29 _ rfl ⟨p, 0, none⟩ rfl (.agg (twoV g r)) (by rintro w' ⟨z, rfl⟩; exact two_load z.k1) ?_
            simp only [Act.put, List.setIfInBounds_toArray, List.set_cons_succ, List.set_cons_zero]
            go_big_quiet_step (rfl)
            go_big_quiet_step (rfl)
            go_big_quiet_step (rfl)
            refine q_ldT rfl 40 _ rfl ⟨g', off + k * 51, none⟩ rfl (.agg (actV x)) (by rintro w' ⟨z, rfl⟩; exact LX.out _ z.below) ?_
            simp only [Act.put, List.setIfInBounds_toArray, List.set_cons_succ, List.set_cons_zero]
            refine wpQuiet_nil ?_
            refine wpAnyH_all (rs := [5]) (by kernel_rfl) (by decide) ?_
            intro i hi
            obtain rfl := List.mem_singleton.1 hi
            refine wpOp_call rfl rfl 11 #[.tmp 35, .tmp 39] (by intro b w; have hf := Try.func11; simp [go_sem]) #[.agg (twoV g r), .agg (actV x)] rfl (fun v w' => v = .bool true ∧ PlTo B (k + 1) (World.drew wr) w' g r gr R (stepT canC hsC R S x) v1 v2 v3 vl) ((does_any B k _ g r gr R S L v1 v2 v3 vl RD.pl (by omega) x OX.out).mono fun e w' h => ⟨_, h.1, rfl, h.2⟩) (some 40) rfl ?_
            rintro v x1 ⟨rfl, h1⟩
            obtain ⟨L1, u1, u2, u3, ul, hR1⟩ := RD.to h1
            refine ⟨InL.of hR1.below hR1.blk, ?_⟩
            refine wpAnyH_done (by kernel_rfl) ?_ _
            exact ⟨rfl, _, _, _, _, _, rfl, L1, u1, u2, u3, ul, hR1⟩
          rintro a' w' ⟨y35, y36, y37, y38, y39, rfl, hR9⟩
          have R9 : Hid _ := hR9
          clear hR9
          simp only [Act.put, List.setIfInBounds_toArray, List.set_cons_succ, List.set_cons_zero]
          clear RD
          obtain ⟨L9, x1, x2, x3, xl, hR9⟩ := R9.out
          obtain ⟨S9, hS9⟩ : ∃ S9, S9 = stepT canC hsC R S x := ⟨_, rfl⟩
          rw [← hS9] at hR9 R9 HS
          clear hS9
          have T9 : Hid (w'.heap[p]? = some (.cells #[.pointer (some ⟨g, 0, none⟩), .pointer (some ⟨r, 0, none⟩)] 29 (0, 0))) := hR9.blk
          have Q9 : Hid (w'.heap[w.heap.size]? = some (.cells (roomA c a q i h) 23 (0, 0))) := (hR9.below.block _ (Array.getElem?_eq_some_iff.1 R1.out).1).trans R1.out
          have CC : Hid (∀ (z : Int) (u : Later w'), Calls Try.prog 13 #[.pointer (some ⟨g, 0, none⟩), .int .i64 z] u.world fun e w9 => e = .returned (.int .i64 ((slotsT S9 z).length : Nat)) ∧ Below u.world.heap.size u.world w9) := by
            intro z u
            refine (count_any B u.world g R S9 x1 x2 x3 (hR9.pl.two.t.below u.below) z).mono ?_
            rintro e w9 ⟨rfl, rfl⟩
            exact ⟨rfl, Below.refl _ _⟩
          have l1 : decide (((slotsT S9 1).length : Int) > c) = false := by
            have h1 := hR9.pl.inv.inv.lc
            have h2 : (R.cache : Int) = c := by rw [HRR.out]; exact Int.toNat_of_nonneg HR.out.1.1
            have h3 : (slotsT S9 1).length = S9.c.length := rfl
            exact decide_eq_false (by omega)
          have l2 : decide (((slotsT S9 2).length : Int) > a) = false := by
            have h1 := hR9.pl.inv.inv.la
            have h2 : (R.auth : Int) = a := by rw [HRR.out]; exact Int.toNat_of_nonneg HR.out.2.1.1
            have h3 : (slotsT S9 2).length = S9.a.length := rfl
            exact decide_eq_false (by omega)
          have l3 : decide (((slotsT S9 3).length : Int) > q) = false := by
            have h1 := hR9.pl.inv.inv.lp
            have h2 : (R.part : Int) = q := by rw [HRR.out]; exact Int.toNat_of_nonneg HR.out.2.2.1.1
            have h3 : (slotsT S9 3).length = S9.p.length := rfl
            exact decide_eq_false (by omega)
          have d0 : ∀ u : Later w', u.world.cell? ⟨p, 0, none⟩ = some (.pointer (some ⟨g, 0, none⟩)) := fun u => by rw [cell_of_row _ _ _ _ _ _ (later_block T9.out _ ⟨u, rfl⟩)]; rfl
          have d1 : ∀ u : Later w', u.world.cell? ⟨w.heap.size, 0, none⟩ = some (.int .i64 c) := fun u => by rw [cell_of_row _ _ _ _ _ _ (later_block Q9.out _ ⟨u, rfl⟩)]; rfl
          have d2 : ∀ u : Later w', u.world.cell? ⟨w.heap.size, 1, none⟩ = some (.int .i64 a) := fun u => by rw [cell_of_row _ _ _ _ _ _ (later_block Q9.out _ ⟨u, rfl⟩)]; rfl
          have d3 : ∀ u : Later w', u.world.cell? ⟨w.heap.size, 2, none⟩ = some (.int .i64 q) := fun u => by rw [cell_of_row _ _ _ _ _ _ (later_block Q9.out _ ⟨u, rfl⟩)]; rfl
          obtain ⟨m1, hm1⟩ : ∃ m1 : Int, m1 = ((slotsT S9 1).length : Nat) := ⟨_, rfl⟩
          obtain ⟨m2, hm2⟩ : ∃ m2 : Int, m2 = ((slotsT S9 2).length : Nat) := ⟨_, rfl⟩
          obtain ⟨m3, hm3⟩ : ∃ m3 : Int, m3 = ((slotsT S9 3).length : Nat) := ⟨_, rfl⟩
          have C1 : Hid (∀ u : Later w', Calls Try.prog 13 #[.pointer (some ⟨g, 0, none⟩), .int .i64 1] u.world fun e w9 => e = .returned (.int .i64 m1) ∧ Below u.world.heap.size u.world w9) := by rw [hm1]; exact CC.out 1
          have C2 : Hid (∀ u : Later w', Calls Try.prog 13 #[.pointer (some ⟨g, 0, none⟩), .int .i64 2] u.world fun e w9 => e = .returned (.int .i64 m2) ∧ Below u.world.heap.size u.world w9) := by rw [hm2]; exact CC.out 2
          have C3 : Hid (∀ u : Later w', Calls Try.prog 13 #[.pointer (some ⟨g, 0, none⟩), .int .i64 3] u.world fun e w9 => e = .returned (.int .i64 m3) ∧ Below u.world.heap.size u.world w9) := by rw [hm3]; exact CC.out 3
          rw [← hm1] at l1
          rw [← hm2] at l2
          rw [← hm3] at l3
          have l1b : decide (c < m1) = false := l1
          have l2b : decide (a < m2) = false := l2
          have l3b : decide (q < m3) = false := l3
          have ne1 := Later.ne w'
          have RST : Hid (∀ u : Later w', RunE w1 B (k + 1) u.world p g r gr R S9) := fun u => ⟨L9, x1, x2, x3, xl, hR9.stay u.below⟩
          clear hR9 CC hm1 hm2 hm3 R9
          go_wp2_with fail
          refine wp_region_later (by kernel_rfl) (by kernel_rfl) ?_
          go_big_quiet_step (rfl)
          go_big_quiet_step (rfl)
          go_big_quiet_want; go_big_quiet_op
          refine ⟨_, fun u => Calls.later_of (C1.out u), ?_⟩
          go_big_quiet_on
          go_big_quiet_step (rfl)
          go_big_quiet_step (rfl)
          go_big_quiet_step (rfl)
          go_big_quiet_step (rfl)
          go_big_quiet_step (rfl)
          go_big_quiet_step (rfl)
          go_big_quiet_want; go_big_quiet_op
          refine ⟨_, fun u => Calls.later_of (C2.out u), ?_⟩
          go_big_quiet_on
          go_big_quiet_step (rfl)
          go_big_quiet_step (rfl)
          go_big_quiet_step (rfl)
          go_big_quiet_step (rfl)
          go_big_quiet_step (rfl)
          go_big_quiet_step (rfl)
          go_big_quiet_step (rfl)
          go_big_quiet_want; go_big_quiet_op
          refine ⟨_, fun u => Calls.later_of (C3.out u), ?_⟩
          go_big_quiet_on
          go_big_quiet_step (rfl)
          go_big_quiet_step (rfl)
          go_big_quiet_step (rfl)
          go_big_quiet_step (rfl)
          refine wpQuiet_nil ?_
          rintro w9 ⟨u, rfl⟩
          go_wp2_with fail
          go_roundw
          case rel => exact ⟨k + 1, by omega, by omega, by go_num, by show RunE _ _ _ _ _ _ _ _ _ _; rw [HS.out]; exact RST.out u⟩
          case measure => simp [intOf]; omega
        · have hl6' : ¬ (k : Int) < 60 := by omega
          obtain ⟨L, v1, v2, v3, vl, hRN⟩ := HRE.out
          obtain ⟨S, hS⟩ : ∃ S, S = playS R ⟨[], [], []⟩ (A.take k) := ⟨_, rfl⟩
          rw [← hS] at hRN
          clear hS HRE
          have T9 : Hid (wr.heap[p]? = some (.cells #[.pointer (some ⟨g, 0, none⟩), .pointer (some ⟨r, 0, none⟩)] 29 (0, 0))) := hRN.blk
          have t9 : wr.cell? ⟨p, 0, none⟩ = some (.pointer (some ⟨g, 0, none⟩)) := by rw [cell_of_row _ _ _ _ _ _ T9.out]; rfl
          have R9 : Hid (wr.heap[w.heap.size]? = some (.cells (roomA c a q i h) 23 (0, 0))) := (hRN.below.block _ (Array.getElem?_eq_some_iff.1 R1.out).1).trans R1.out
          have V9 : Hid (TabV B wr g R S v1 v2 v3) := hRN.pl.two.t
          have LN : Hid (∀ b, (bankL S b).length ≤ 1000000) := hRN.pl.lens
          have B9 : Hid (Below w.heap.size w wr) := below_step B1.out B1.out.size hRN.below
          have HWB : Hid (w.heap.size ≤ B) := Nat.le_trans B1.out.size hRN.hB
          have RA : Hid ((R.auth : Int) = a) := by show _ = _; rw [HRR.out]; exact Int.toNat_of_nonneg HR.out.2.1.1
          have NP : Hid (¬ footT g v1 v2 v3 p ∧ ¬ footT g v1 v2 v3 w.heap.size) := ⟨fun e => hRN.out (.inl e), V9.out.boxes R9.out (by decide) (by decide)⟩
          have hs1 := slots_any B wr g R S v1 v2 v3 V9.out 2 LN.out
          clear hRN
          go_wp2_with (go_at_call 14; refine hs1.mono ?_; rintro e wa ⟨⟨u8, rfl, hu8⟩, hba⟩; refine of_stopS ?_)
          unfold StopS
          have Ta : Hid (wa.heap[p]? = some (.cells #[.pointer (some ⟨g, 0, none⟩), .pointer (some ⟨r, 0, none⟩)] 29 (0, 0))) := (hba.block _ (Array.getElem?_eq_some_iff.1 T9.out).1).trans T9.out
          have ta : wa.cell? ⟨p, 0, none⟩ = some (.pointer (some ⟨g, 0, none⟩)) := by rw [cell_of_row _ _ _ _ _ _ Ta.out]; rfl
          have Ra : Hid (wa.heap[w.heap.size]? = some (.cells (roomA c a q i h) 23 (0, 0))) := (hba.block _ (Array.getElem?_eq_some_iff.1 R9.out).1).trans R9.out
          have Va : Hid (TabV B wa g R S v1 v2 v3) := V9.out.below hba
          have Ba : Hid (Below w.heap.size w wa) := below_step B9.out B9.out.size hba
          have U8 : Hid (SlotsAt wr.heap.size wa u8 S.a) := hu8
          obtain ⟨o8, cap8, rfl, _, _⟩ := U8.out.slice
          have SZ : Hid (p < wr.heap.size) := (Array.getElem?_eq_some_iff.1 T9.out).1
          have hla := lay_any B wa g R S v1 v2 v3 Va.out lay7 lay7_ok LN.out
          have e7 : layB R S lay7 = ({ S with a := (layT R.auth S.a lay7 (canC lay7.cube)).1 }, (layT R.auth S.a lay7 (canC lay7.cube)).2) := by unfold layB; rw [if_pos (show lay7.bank = 2 from rfl)]
          rw [e7] at hla
          clear hu8 hba hs1 t9 e7
          have A2 : Hid (S.a.length ≤ 1000000) := LN.out 2
          rcases layT_cases R.auth S.a lay7 (canC lay7.cube) with ⟨_, el⟩ | ⟨_, hlen, el⟩ | ⟨_, _, el⟩
          · rw [el] at hla
            clear el
            go_wp2_with (first | ((with_reducible refine wl_gBT _ rfl ?_); refine wl_valT rfl (.agg (slotV lay7)) (run_buildOpT rfl _ _ #[(0, .int .i64 2), (1, .int .i64 (-7)), (2, .int .i64 (-7))] (by simp only [List.map_toArray, List.map_cons, List.map_nil]; rfl) _ (build_lay7 _)) ?_) | (go_at_call 15; refine hla.mono ?_; rintro e wb ⟨rfl, hb⟩; refine of_stopS ?_))
            unfold StopS
            have Bb : Hid (Below w.heap.size w wb) := Ba.out.trans ((TabTo.belowB Va.out hb).mono HWB.out)
            clear hb hla
            go_wp2_with fail
            go_ret
            exact ⟨by simp, Bb.out⟩
          · rw [el] at hla
            have hq : ((S.a.length : Int) == a) = true := by rw [hlen, RA.out]; simp
            clear el hlen
            go_wp2_with (first | ((with_reducible refine wl_gBT _ rfl ?_); refine wl_valT rfl (.agg (slotV lay7)) (run_buildOpT rfl _ _ #[(0, .int .i64 2), (1, .int .i64 (-7)), (2, .int .i64 (-7))] (by simp only [List.map_toArray, List.map_cons, List.map_nil]; rfl) _ (build_lay7 _)) ?_) | (go_at_call 15; refine hla.mono ?_; rintro e wb ⟨rfl, hb⟩; refine of_stopS ?_))
            unfold StopS
            have Bb : Hid (Below w.heap.size w wb) := Ba.out.trans ((TabTo.belowB Va.out hb).mono HWB.out)
            obtain ⟨y1, y2, y3, hb1, hb2, _⟩ := hb
            have Rb : Hid (wb.heap[w.heap.size]? = some (.cells (roomA c a q i h) 23 (0, 0))) := hb2.heap Ra.out NP.out.2
            have Tb : Hid (wb.heap[p]? = some (.cells #[.pointer (some ⟨g, 0, none⟩), .pointer (some ⟨r, 0, none⟩)] 29 (0, 0))) := hb2.heap Ta.out NP.out.1
            have rb : wb.cell? ⟨w.heap.size, 1, none⟩ = some (.int .i64 a) := by rw [cell_of_row _ _ _ _ _ _ Rb.out]; rfl
            have tb : wb.cell? ⟨p, 0, none⟩ = some (.pointer (some ⟨g, 0, none⟩)) := by rw [cell_of_row _ _ _ _ _ _ Tb.out]; rfl
            have U8b : Hid (SlotsAt wr.heap.size wb (.slice o8 S.a.length cap8) S.a) := U8.out.kept hb2 fun k e e' => by have h1 := (U8.out.lt k e).1; have h2 := (V9.out.foot_in k e').2; omega
            have hs2 := slots_any B wb g R S y1 y2 y3 (show TabV B wb g R S y1 y2 y3 from hb1) 2 LN.out
            clear hb1 hb2 hla ta
            obtain ⟨m, hm⟩ : ∃ m, m = S.a.length := ⟨_, rfl⟩
            rw [← hm] at hq U8b A2
            rw [← hm]
            have HM : Hid (m = S.a.length) := hm
            clear hm
            go_wp2_with (go_at_call 14; refine hs2.mono ?_; rintro e wd ⟨⟨u9, rfl, hu9⟩, hbd⟩; refine of_stopS ?_)
            unfold StopS
            have Bd : Hid (Below w.heap.size w wd) := below_step Bb.out Bb.out.size hbd
            have hsa := rsameT_any S.a _ u9 wd (U8b.out.below hbd).sl hu9.sl (by rw [← HM.out]; exact A2.out)
            clear hu9 hbd hs2
            go_wp2_with (go_at_call 16; refine hsa.mono ?_; rintro e wf ⟨rfl, hbf⟩; refine of_stopS ?_)
            unfold StopS
            have Bf : Hid (Below w.heap.size w wf) := below_step Bd.out Bd.out.size hbf
            clear hbf hsa
            go_wp2_with fail
            go_ret
            exact ⟨by simp, Bf.out⟩
          · rw [el] at hla
            clear el
            go_wp2_with (first | ((with_reducible refine wl_gBT _ rfl ?_); refine wl_valT rfl (.agg (slotV lay7)) (run_buildOpT rfl _ _ #[(0, .int .i64 2), (1, .int .i64 (-7)), (2, .int .i64 (-7))] (by simp only [List.map_toArray, List.map_cons, List.map_nil]; rfl) _ (build_lay7 _)) ?_) | (go_at_call 15; refine hla.mono ?_; rintro e wb ⟨rfl, hb⟩; refine of_stopS ?_))
            unfold StopS
            have Bb : Hid (Below w.heap.size w wb) := Ba.out.trans ((TabTo.belowB Va.out hb).mono HWB.out)
            clear hb hla
            go_wp2_with fail
            go_ret
            exact ⟨by simp, Bb.out⟩
      · have hlt' : ¬ (k : Int) < (n : Int) := by omega
        obtain ⟨L, v1, v2, v3, vl, hRN⟩ := HRE.out
        obtain ⟨S, hS⟩ : ∃ S, S = playS R ⟨[], [], []⟩ (A.take k) := ⟨_, rfl⟩
        rw [← hS] at hRN
        clear hS HRE
        have T9 : Hid (wr.heap[p]? = some (.cells #[.pointer (some ⟨g, 0, none⟩), .pointer (some ⟨r, 0, none⟩)] 29 (0, 0))) := hRN.blk
        have t9 : wr.cell? ⟨p, 0, none⟩ = some (.pointer (some ⟨g, 0, none⟩)) := by rw [cell_of_row _ _ _ _ _ _ T9.out]; rfl
        have R9 : Hid (wr.heap[w.heap.size]? = some (.cells (roomA c a q i h) 23 (0, 0))) := (hRN.below.block _ (Array.getElem?_eq_some_iff.1 R1.out).1).trans R1.out
        have V9 : Hid (TabV B wr g R S v1 v2 v3) := hRN.pl.two.t
        have LN : Hid (∀ b, (bankL S b).length ≤ 1000000) := hRN.pl.lens
        have B9 : Hid (Below w.heap.size w wr) := below_step B1.out B1.out.size hRN.below
        have HWB : Hid (w.heap.size ≤ B) := Nat.le_trans B1.out.size hRN.hB
        have RA : Hid ((R.auth : Int) = a) := by show _ = _; rw [HRR.out]; exact Int.toNat_of_nonneg HR.out.2.1.1
        have NP : Hid (¬ footT g v1 v2 v3 p ∧ ¬ footT g v1 v2 v3 w.heap.size) := ⟨fun e => hRN.out (.inl e), V9.out.boxes R9.out (by decide) (by decide)⟩
        have hs1 := slots_any B wr g R S v1 v2 v3 V9.out 2 LN.out
        clear hRN
        go_wp2_with (go_at_call 14; refine hs1.mono ?_; rintro e wa ⟨⟨u8, rfl, hu8⟩, hba⟩; refine of_stopS ?_)
        unfold StopS
        have Ta : Hid (wa.heap[p]? = some (.cells #[.pointer (some ⟨g, 0, none⟩), .pointer (some ⟨r, 0, none⟩)] 29 (0, 0))) := (hba.block _ (Array.getElem?_eq_some_iff.1 T9.out).1).trans T9.out
        have ta : wa.cell? ⟨p, 0, none⟩ = some (.pointer (some ⟨g, 0, none⟩)) := by rw [cell_of_row _ _ _ _ _ _ Ta.out]; rfl
        have Ra : Hid (wa.heap[w.heap.size]? = some (.cells (roomA c a q i h) 23 (0, 0))) := (hba.block _ (Array.getElem?_eq_some_iff.1 R9.out).1).trans R9.out
        have Va : Hid (TabV B wa g R S v1 v2 v3) := V9.out.below hba
        have Ba : Hid (Below w.heap.size w wa) := below_step B9.out B9.out.size hba
        have U8 : Hid (SlotsAt wr.heap.size wa u8 S.a) := hu8
        obtain ⟨o8, cap8, rfl, _, _⟩ := U8.out.slice
        have SZ : Hid (p < wr.heap.size) := (Array.getElem?_eq_some_iff.1 T9.out).1
        have hla := lay_any B wa g R S v1 v2 v3 Va.out lay7 lay7_ok LN.out
        have e7 : layB R S lay7 = ({ S with a := (layT R.auth S.a lay7 (canC lay7.cube)).1 }, (layT R.auth S.a lay7 (canC lay7.cube)).2) := by unfold layB; rw [if_pos (show lay7.bank = 2 from rfl)]
        rw [e7] at hla
        clear hu8 hba hs1 t9 e7
        have A2 : Hid (S.a.length ≤ 1000000) := LN.out 2
        rcases layT_cases R.auth S.a lay7 (canC lay7.cube) with ⟨_, el⟩ | ⟨_, hlen, el⟩ | ⟨_, _, el⟩
        · rw [el] at hla
          clear el
          go_wp2_with (first | ((with_reducible refine wl_gBT _ rfl ?_); refine wl_valT rfl (.agg (slotV lay7)) (run_buildOpT rfl _ _ #[(0, .int .i64 2), (1, .int .i64 (-7)), (2, .int .i64 (-7))] (by simp only [List.map_toArray, List.map_cons, List.map_nil]; rfl) _ (build_lay7 _)) ?_) | (go_at_call 15; refine hla.mono ?_; rintro e wb ⟨rfl, hb⟩; refine of_stopS ?_))
          unfold StopS
          have Bb : Hid (Below w.heap.size w wb) := Ba.out.trans ((TabTo.belowB Va.out hb).mono HWB.out)
          clear hb hla
          go_wp2_with fail
          go_ret
          exact ⟨by simp, Bb.out⟩
        · rw [el] at hla
          have hq : ((S.a.length : Int) == a) = true := by rw [hlen, RA.out]; simp
          clear el hlen
          go_wp2_with (first | ((with_reducible refine wl_gBT _ rfl ?_); refine wl_valT rfl (.agg (slotV lay7)) (run_buildOpT rfl _ _ #[(0, .int .i64 2), (1, .int .i64 (-7)), (2, .int .i64 (-7))] (by simp only [List.map_toArray, List.map_cons, List.map_nil]; rfl) _ (build_lay7 _)) ?_) | (go_at_call 15; refine hla.mono ?_; rintro e wb ⟨rfl, hb⟩; refine of_stopS ?_))
          unfold StopS
          have Bb : Hid (Below w.heap.size w wb) := Ba.out.trans ((TabTo.belowB Va.out hb).mono HWB.out)
          obtain ⟨y1, y2, y3, hb1, hb2, _⟩ := hb
          have Rb : Hid (wb.heap[w.heap.size]? = some (.cells (roomA c a q i h) 23 (0, 0))) := hb2.heap Ra.out NP.out.2
          have Tb : Hid (wb.heap[p]? = some (.cells #[.pointer (some ⟨g, 0, none⟩), .pointer (some ⟨r, 0, none⟩)] 29 (0, 0))) := hb2.heap Ta.out NP.out.1
          have rb : wb.cell? ⟨w.heap.size, 1, none⟩ = some (.int .i64 a) := by rw [cell_of_row _ _ _ _ _ _ Rb.out]; rfl
          have tb : wb.cell? ⟨p, 0, none⟩ = some (.pointer (some ⟨g, 0, none⟩)) := by rw [cell_of_row _ _ _ _ _ _ Tb.out]; rfl
          have U8b : Hid (SlotsAt wr.heap.size wb (.slice o8 S.a.length cap8) S.a) := U8.out.kept hb2 fun k e e' => by have h1 := (U8.out.lt k e).1; have h2 := (V9.out.foot_in k e').2; omega
          have hs2 := slots_any B wb g R S y1 y2 y3 (show TabV B wb g R S y1 y2 y3 from hb1) 2 LN.out
          clear hb1 hb2 hla ta
          obtain ⟨m, hm⟩ : ∃ m, m = S.a.length := ⟨_, rfl⟩
          rw [← hm] at hq U8b A2
          rw [← hm]
          have HM : Hid (m = S.a.length) := hm
          clear hm
          go_wp2_with (go_at_call 14; refine hs2.mono ?_; rintro e wd ⟨⟨u9, rfl, hu9⟩, hbd⟩; refine of_stopS ?_)
          unfold StopS
          have Bd : Hid (Below w.heap.size w wd) := below_step Bb.out Bb.out.size hbd
          have hsa := rsameT_any S.a _ u9 wd (U8b.out.below hbd).sl hu9.sl (by rw [← HM.out]; exact A2.out)
          clear hu9 hbd hs2
          go_wp2_with (go_at_call 16; refine hsa.mono ?_; rintro e wf ⟨rfl, hbf⟩; refine of_stopS ?_)
          unfold StopS
          have Bf : Hid (Below w.heap.size w wf) := below_step Bd.out Bd.out.size hbf
          clear hbf hsa
          go_wp2_with fail
          go_ret
          exact ⟨by simp, Bf.out⟩
        · rw [el] at hla
          clear el
          go_wp2_with (first | ((with_reducible refine wl_gBT _ rfl ?_); refine wl_valT rfl (.agg (slotV lay7)) (run_buildOpT rfl _ _ #[(0, .int .i64 2), (1, .int .i64 (-7)), (2, .int .i64 (-7))] (by simp only [List.map_toArray, List.map_cons, List.map_nil]; rfl) _ (build_lay7 _)) ?_) | (go_at_call 15; refine hla.mono ?_; rintro e wb ⟨rfl, hb⟩; refine of_stopS ?_))
          unfold StopS
          have Bb : Hid (Below w.heap.size w wb) := Ba.out.trans ((TabTo.belowB Va.out hb).mono HWB.out)
          clear hb hla
          go_wp2_with fail
          go_ret
          exact ⟨by simp, Bb.out⟩
  · have hop := open_no c a q i h hr w1
    clear hr
    go_wp2_with (first | ((with_reducible refine wl_gT 23 _ rfl ?_); refine wl_ldT rfl 23 _ rfl ⟨w.heap.size, 0, none⟩ rfl (.agg (roomA c a q i h)) (room_load R1.out) ?_) | (go_at_call 10; refine hop.mono ?_; rintro e w2 ⟨rfl, hb2⟩; refine of_stopS ?_))
    unfold StopS
    have B2 : Hid (Below w.heap.size w w2) := below_step B1.out B1.out.size hb2
    clear hb2 hop
    go_wp2_with fail
    go_ret
    exact ⟨by simp, B2.out.alloc B2.out.size _⟩
end Go.Proofs.Ytojhckjdkafpmaa
