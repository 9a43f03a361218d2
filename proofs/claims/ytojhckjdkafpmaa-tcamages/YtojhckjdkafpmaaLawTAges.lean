import Derived.Test.YtojhckjdkafpmaaTcPlay2
namespace Go.Proofs.Ytojhckjdkafpmaa
open Go Go.RowKit
set_option maxRecDepth 20000

/-- Of two ages: which of the ways it is. -/
theorem old_cases (idle hard tt u b : Int) (hi : 0 ≤ idle) (hh : 0 ≤ hard) :
    ((oldI idle tt u || oldI hard tt b) = false ∧ ((idle = 0 ∧ hard = 0) ∨ (idle = 0 ∧ hard > 0 ∧ ¬ tt - b ≥ hard) ∨ (idle > 0 ∧ ¬ tt - u ≥ idle ∧ hard = 0) ∨ (idle > 0 ∧ ¬ tt - u ≥ idle ∧ hard > 0 ∧ ¬ tt - b ≥ hard))) ∨
    ((oldI idle tt u || oldI hard tt b) = true ∧ ((idle > 0 ∧ tt - u ≥ idle) ∨ (idle = 0 ∧ hard > 0 ∧ tt - b ≥ hard) ∨ (idle > 0 ∧ ¬ tt - u ≥ idle ∧ hard > 0 ∧ tt - b ≥ hard))) := by
  rcases oldI_cases idle tt u with ⟨e1, h1⟩ | ⟨e1, h1, h2⟩ | ⟨e1, h1, h2⟩
  · rcases oldI_cases hard tt b with ⟨f1, g1⟩ | ⟨f1, g1, g2⟩ | ⟨f1, g1, g2⟩
    · exact .inl ⟨by rw [e1, f1]; rfl, by omega⟩
    · exact .inr ⟨by rw [e1, f1]; rfl, by omega⟩
    · exact .inl ⟨by rw [e1, f1]; rfl, by omega⟩
  · exact .inr ⟨by rw [e1]; rfl, by omega⟩
  · rcases oldI_cases hard tt b with ⟨f1, g1⟩ | ⟨f1, g1, g2⟩ | ⟨f1, g1, g2⟩
    · exact .inl ⟨by rw [e1, f1]; rfl, by omega⟩
    · exact .inr ⟨by rw [e1, f1]; rfl, by omega⟩
    · exact .inl ⟨by rw [e1, f1]; rfl, by omega⟩
set_option maxHeartbeats 32000000 in
theorem lawAges (c a q i h : Int) (A : List ActM) (lv : Value) (w : World) (hl : GSl ActE actV w lv A) (hA : ∀ x ∈ A, OkA x) (now : Int) :
    Calls Try.prog 8 #[.agg (roomA c a q i h), lv, .int .i64 now] w fun e w' => e = .returned (.bool true) ∧ Below w.heap.size w w' := by
  have AW : Hid (∀ W, Calls Try.prog 9 #[] W fun r w' => r = .returned (.bool true) ∧ Below W.heap.size W w') := awakeT_any
  obtain ⟨w0, hw0⟩ : ∃ w0, w0 = w.alloc (.cells (roomA c a q i h) 23) := ⟨_, rfl⟩
  have B0 : Hid (Below w.heap.size w w0) := by show Below _ _ _; rw [hw0]; exact (Below.refl _ _).alloc (Nat.le_refl _) _
  have R0 : Hid (w0.heap[w.heap.size]? = some (.cells (roomA c a q i h) 23 (0, 0))) := by show _ = _; rw [hw0]; exact heap_new _ _ _ rfl
  have haw := AW.out w0
  have HL0 : Hid (GSl ActE actV w lv A) := hl
  have HA : Hid (∀ x ∈ A, OkA x) := hA
  rw [hw0] at haw
  obtain ⟨ol, capl, rfl, _, _⟩ := hl.slice
  clear hl hA AW
  go_enter Try.func8, Try.ntmps8
  go_wp2_with (go_at_call 9; refine haw.mono ?_; rintro e w1 ⟨rfl, hb1⟩; refine of_stopS ?_)
  unfold StopS
  rw [← hw0] at hb1
  have B1 : Hid (Below w.heap.size w w1) := below_step B0.out B0.out.size hb1
  have R1 : Hid (w1.heap[w.heap.size]? = some (.cells (roomA c a q i h) 23 (0, 0))) := (hb1.block _ (Array.getElem?_eq_some_iff.1 R0.out).1).trans R0.out
  clear hb1 haw R0 B0  hw0
  by_cases hr : OkR c a q i h
  case neg =>
    have hpl := played_no c a q i h hr (.slice ol A.length capl) w1
    clear hr
    go_wp2_with (first | ((with_reducible refine wl_gT 23 _ rfl ?_); refine wl_ldT rfl 23 _ rfl ⟨w.heap.size, 0, none⟩ rfl (.agg (roomA c a q i h)) (room_load R1.out) ?_) | (go_at_call 17; refine hpl.mono ?_; rintro e w2 ⟨rfl, hb2⟩; refine of_stopS ?_))
    unfold StopS
    have B2 : Hid (Below w.heap.size w w2) := below_step B1.out B1.out.size hb2
    clear hb2 hpl
    go_wp2_with fail
    go_ret
    exact ⟨by simp, B2.out⟩
  case pos =>
    have hpl := played_yes c a q i h hr A (.slice ol A.length capl) w1 (GSl.below HL0.out B1.out) HA.out
    have HR : Hid (OkR c a q i h) := hr
    clear hr HL0 HA
    obtain ⟨R, hRR⟩ : ∃ R, R = rmOf c a q i h := ⟨_, rfl⟩
    have HRR : Hid (R = rmOf c a q i h) := hRR
    rw [← hRR] at hpl
    clear hRR
    go_wp2_with (first | ((with_reducible refine wl_gT 23 _ rfl ?_); refine wl_ldT rfl 23 _ rfl ⟨w.heap.size, 0, none⟩ rfl (.agg (roomA c a q i h)) (room_load R1.out) ?_) | (go_at_call 17; refine hpl.mono ?_; rintro e w2 ⟨B, n, p, g, r, gr, S, rfl, hn60, L, v1, v2, v3, vl, hRun⟩; refine of_stopS ?_))
    unfold StopS
    have B2 : Hid (Below w.heap.size w w2) := below_step B1.out B1.out.size hRun.below
    have R2 : Hid (w2.heap[w.heap.size]? = some (.cells (roomA c a q i h) 23 (0, 0))) := (hRun.below.block _ (Array.getElem?_eq_some_iff.1 R1.out).1).trans R1.out
    have T2 : Hid (TabV B w2 g R S v1 v2 v3) := hRun.pl.two.t
    have IV : Hid (InvX n R S) := hRun.pl.inv
    have LN : Hid (∀ b, (bankL S b).length ≤ 1000000) := hRun.pl.lens
    have HWB : Hid (w.heap.size ≤ B) := Nat.le_trans B1.out.size hRun.hB
    clear hRun hpl R1 B1 
    have TM : Hid (∀ x ∈ S.c, 0 ≤ x.used ∧ x.used ≤ 1099511627776 ∧ 0 ≤ x.born ∧ x.born ≤ 1099511627776) := fun x hx => by have h9 := IV.out.inv.c x hx; exact ⟨h9.2.2.2.1, h9.2.2.2.2.1, h9.2.2.2.2.2.1, h9.2.2.2.2.2.2.1⟩
    have RI : Hid (R.idle = i ∧ R.hard = h) := by rw [HRR.out]; exact ⟨rfl, rfl⟩
    have hi0 : 0 ≤ i := HR.out.2.2.2.1.1
    have hh0 : 0 ≤ h := HR.out.2.2.2.2.1
    obtain ⟨tt, htt⟩ : ∃ tt, tt = timeT now := ⟨_, rfl⟩
    have ht := timeT_in now
    unfold MAXT at ht
    rw [← htt] at ht
    obtain ⟨ht1, ht2⟩ := ht
    have OD : Hid (∀ x, oldS R.idle R.hard now x = (oldI i tt x.used || oldI h tt x.born)) := by intro x; rw [htt, RI.out.1, RI.out.2]; rfl
    obtain ⟨C, hC⟩ : ∃ C, C = S.c := ⟨_, rfl⟩
    obtain ⟨G, hG⟩ : ∃ G, G = C.filter (oldS R.idle R.hard now) := ⟨_, rfl⟩
    obtain ⟨F, hF⟩ : ∃ F, F = C.filter (fun x => !(oldS R.idle R.hard now x)) := ⟨_, rfl⟩
    have CL : Hid (C.length ≤ 1000000) := by show _ ≤ _; rw [hC]; exact LN.out 1
    have LG : Hid (F.length + G.length = C.length) := by show _ = _; rw [hF, hG]; exact gone_len _ _
    have FM : Hid (∀ x ∈ F, (oldI i tt x.used || oldI h tt x.born) = false ∧ 0 ≤ x.used ∧ x.used ≤ 1099511627776 ∧ 0 ≤ x.born ∧ x.born ≤ 1099511627776) := by
      intro x hx
      rw [hF] at hx
      obtain ⟨q1, q2⟩ := List.mem_filter.1 hx
      rw [OD.out] at q2
      rw [hC] at q1
      exact ⟨by simpa using q2, TM.out x q1⟩
    have GM : Hid (∀ x ∈ G, (oldI i tt x.used || oldI h tt x.born) = true ∧ 0 ≤ x.used ∧ x.used ≤ 1099511627776 ∧ 0 ≤ x.born ∧ x.born ≤ 1099511627776) := by
      intro x hx
      rw [hG] at hx
      obtain ⟨q1, q2⟩ := List.mem_filter.1 hx
      rw [OD.out] at q2
      rw [hC] at q1
      exact ⟨q2, TM.out x q1⟩
    have GZ : Hid (i = 0 → h = 0 → G.length = 0) := by
      intro q1 q2
      cases hg : G with
      | nil => rfl
      | cons x l =>
        have h9 := (GM.out x (by rw [hg]; simp)).1
        unfold oldI at h9
        rw [q1, q2] at h9
        simp at h9
    have SL1 := slots_any B w2 g R S v1 v2 v3 T2.out 1 LN.out
    have TK : Hid (∀ W, Below w2.heap.size w2 W → Calls Try.prog 24 #[.pointer (some ⟨g, 0, none⟩), .int .i64 now] W fun e w' => ∃ u, e = .returned u ∧ SlotsAt W.heap.size w' u G ∧ TabTo B W w' g R { S with c := F } v1 v2 v3) := by
      intro W hb
      rw [hG, hF, hC]
      exact tick_any B W g R S v1 v2 v3 (T2.out.below hb) now (LN.out 1) TM.out
    have SL2 : Hid (∀ W u1 u2 u3, TabV B W g R { S with c := F } u1 u2 u3 → Calls Try.prog 14 #[.pointer (some ⟨g, 0, none⟩), .int .i64 1] W fun e w' => (∃ u, e = .returned u ∧ SlotsAt W.heap.size w' u F) ∧ Below W.heap.size W w') := by
      intro W u1 u2 u3 hW
      refine slots_any B W g R { S with c := F } u1 u2 u3 hW 1 fun b => ?_
      have h9 := LN.out b
      unfold bankL at h9 ⊢
      split
      · have h8 := LG.out; have h7 := CL.out; show F.length ≤ _; omega
      · rename_i hb1
        rw [if_neg hb1] at h9
        exact h9
    have TI : Hid (∀ W, Calls Try.prog 21 #[.int .i64 now] W fun r w' => r = .returned (.int .i64 tt) ∧ w' = W) := by intro W; rw [htt]; exact rtime_any now W
    have EC : Hid (slotsT S 1 = C) := by show _ = _; rw [hC]; rfl
    rw [EC.out] at SL1
    clear hC hG hF htt
    go_wp2_with (go_at_call 14; refine SL1.mono ?_; rintro e w3 ⟨⟨u3', rfl, hu3⟩, hb3⟩; refine of_stopS ?_)
    unfold StopS
    obtain ⟨oc, capc, rfl, _, _⟩ := hu3.slice
    have htk := TK.out w3 hb3
    have B3 : Hid (Below w2.heap.size w2 w3) := hb3
    clear hu3 hb3 SL1
    go_wp2_with (go_at_call 24; refine htk.mono ?_; rintro e w4 ⟨ug, rfl, hug, h4⟩; refine of_stopS ?_)
    unfold StopS
    have B34 : Hid (Below w.heap.size w3 w4) := (TabTo.belowB (T2.out.below B3.out) h4).mono HWB.out
    have R3 : Hid (w3.heap[w.heap.size]? = some (.cells (roomA c a q i h) 23 (0, 0))) := (B3.out.block _ (Array.getElem?_eq_some_iff.1 R2.out).1).trans R2.out
    obtain ⟨y1, y2, y3, h41, h42, _⟩ := h4
    have NH : ¬ footT g v1 v2 v3 w.heap.size := T2.out.boxes R2.out (by decide) (by decide)
    have R4 : Hid (w4.heap[w.heap.size]? = some (.cells (roomA c a q i h) 23 (0, 0))) := h42.heap R3.out NH
    have UG : Hid (SlotsAt w3.heap.size w4 ug G) := hug
    have hsl := SL2.out w4 y1 y2 y3 h41
    have B4 : Hid (Below w.heap.size w w4) := (below_step B2.out B2.out.size B3.out).trans B34.out
    clear h41 h42 hug NH htk R3 B34
    go_wp2_with (first | (go_at_call 21; refine (TI.out _).mono ?_; rintro e w9 ⟨rfl, hw9⟩; rw [hw9]; clear hw9) | (go_at_call 14; refine hsl.mono ?_; rintro e w5 ⟨⟨uf, rfl, huf⟩, hb5⟩; refine of_stopS ?_))
    unfold StopS
    have B5 : Hid (Below w.heap.size w w5) := below_step B4.out B4.out.size hb5
    have R5 : Hid (w5.heap[w.heap.size]? = some (.cells (roomA c a q i h) 23 (0, 0))) := (hb5.block _ (Array.getElem?_eq_some_iff.1 R4.out).1).trans R4.out
    have UG5 : Hid (SlotsAt w3.heap.size w5 ug G) := UG.out.below hb5
    obtain ⟨og, capg, rfl, hg1, hg2⟩ := UG5.out.slice
    obtain ⟨of', capf, rfl, hf1, hf2⟩ := huf.slice
    have UF5 : Hid (SlotsAt w4.heap.size w5 (.slice of' F.length capf) F) := huf
    have EI : Hid (∀ W, Below w5.heap.size w5 W → W.cell? ⟨w.heap.size, 3, none⟩ = some (.int .i64 i) ∧ W.cell? ⟨w.heap.size, 4, none⟩ = some (.int .i64 h)) := by
      intro W hb
      have h9 := (hb.block _ (Array.getElem?_eq_some_iff.1 R5.out).1).trans R5.out
      exact ⟨by rw [cell_of_row _ _ _ _ _ _ h9]; rfl, by rw [cell_of_row _ _ _ _ _ _ h9]; rfl⟩
    unfold maxLen at hg2 hf2
    obtain ⟨nf, hnf⟩ : ∃ nf, nf = F.length := ⟨_, rfl⟩
    obtain ⟨ng, hng⟩ : ∃ ng, ng = G.length := ⟨_, rfl⟩
    obtain ⟨nc, hnc⟩ : ∃ nc, nc = C.length := ⟨_, rfl⟩
    rw [← hnf] at hf1 UF5 LG
    rw [← hng] at hg1 UG5 LG GZ
    rw [← hnc] at LG CL
    rw [← hnf, ← hng, ← hnc]
    have HNF : Hid (nf = F.length) := hnf
    have HNG : Hid (ng = G.length) := hng
    have hsum : nf + ng = nc := LG.out
    have hcl : nc ≤ 1000000 := CL.out
    clear hnf hng hnc huf hb5 hsl UG R4 LG CL
    go_wp2_with fail
    go_loopw [11] (fun s11 wr => ∃ k : Nat, k ≤ nf ∧ s11 = .int .i64 (k : Int) ∧ Hid (Below w5.heap.size w5 wr)) (fun s11 _ => nf - (intOf s11).toNat)
    case atStart => exact ⟨0, Nat.zero_le _, rfl, Below.refl _ _⟩
    case round =>
      obtain ⟨k, hk, rfl, HB⟩ := hrel
      by_cases hlt : k < nf
      · have hlt' : (k : Int) < (nf : Int) := by omega
        obtain ⟨g', off, cur, ty, fr, x, rfl, hg, hcc, hxk⟩ := (GSl.below UF5.out.sl HB.out).at k (by omega)
        have hcc : ∀ j, j < 36 → cur[off + k * 36 + j]? = (slotV x)[j]? := hcc
        obtain ⟨hox, hu1, hu2, hu3, hu4⟩ := FM.out x (List.mem_of_getElem? hxk)
        have d34 : ∀ u : Later wr, u.world.cell? ⟨g', off + k * 36 + 34, none⟩ = some (.int .i64 x.used) := fun u => ((slf_of hg hcc).below ((later_block hg _ ⟨u, rfl⟩).trans hg.symm)).c34
        have d33 : ∀ u : Later wr, u.world.cell? ⟨g', off + k * 36 + 33, none⟩ = some (.int .i64 x.born) := fun u => ((slf_of hg hcc).below ((later_block hg _ ⟨u, rfl⟩).trans hg.symm)).c33
        have e3 : ∀ u : Later wr, u.world.cell? ⟨w.heap.size, 3, none⟩ = some (.int .i64 i) := fun u => (EI.out _ (below_step HB.out HB.out.size u.below)).1
        have e4 : ∀ u : Later wr, u.world.cell? ⟨w.heap.size, 4, none⟩ = some (.int .i64 h) := fun u => (EI.out _ (below_step HB.out HB.out.size u.below)).2
        have ne1 := Later.ne wr
        obtain ⟨xu, hxu⟩ : ∃ xu, xu = x.used := ⟨_, rfl⟩
        obtain ⟨xb, hxb⟩ : ∃ xb, xb = x.born := ⟨_, rfl⟩
        rw [← hxu] at d34 hox hu1 hu2
        rw [← hxb] at d33 hox hu3 hu4
        clear hg hcc hxk hxu hxb
        rcases old_cases i h tt xu xb hi0 hh0 with ⟨_, hw⟩ | ⟨hno, _⟩
        case inr => rw [hox] at hno; cases hno
        clear hox
        rcases hw with ⟨q1, q2⟩ | ⟨q1, q2, q3⟩ | ⟨q1, q2, q3⟩ | ⟨q1, q2, q3, q4⟩
        · have j1 : decide (i > 0) = false := decide_eq_false (by omega)
          have j1b : decide (0 < i) = false := j1
          have j3 : decide (h > 0) = false := decide_eq_false (by omega)
          have j3b : decide (0 < h) = false := j3
          clear q1 q2
          go_wp2_with fail
          refine wp_region_later (by kernel_rfl) (by kernel_rfl) ?_
          go_big_quiet_step (rfl)
          go_big_quiet_step (rfl)
          go_big_quiet_step (rfl)
          go_big_quiet_step (rfl)
          go_big_quiet_step (rfl)
          go_big_quiet_step (rfl)
          go_big_quiet_step (rfl)
          go_big_quiet_step (rfl)
          go_big_quiet_step (rfl)
          go_big_quiet_step (rfl)
          go_big_quiet_step (rfl)
          go_big_quiet_step (rfl)
          go_big_quiet_step (rfl)
          go_big_quiet_step (rfl)
          go_big_quiet_step (rfl)
          go_big_quiet_step (rfl)
          go_big_quiet_step (rfl)
          go_big_quiet_step (rfl)
          go_big_quiet_step (rfl)
          go_big_quiet_step (rfl)
          go_big_quiet_step (rfl)
          go_big_quiet_step (rfl)
          go_big_quiet_step (rfl)
          go_big_quiet_step (rfl)
          go_big_quiet_step (rfl)
          go_big_quiet_step (rfl)
          go_big_quiet_step (rfl)
          go_big_quiet_step (rfl)
          go_big_quiet_step (rfl)
          go_big_quiet_step (rfl)
          go_big_quiet_step (rfl)
          go_big_quiet_step (rfl)
          refine wpQuiet_nil ?_
          rintro w' ⟨u, rfl⟩
          go_wp2_with fail
          go_roundw
          case rel => exact ⟨k + 1, by omega, by go_num, below_step HB.out HB.out.size u.below⟩
          case measure => simp [intOf]; omega
        · have j1 : decide (i > 0) = false := decide_eq_false (by omega)
          have j1b : decide (0 < i) = false := j1
          have j3 : decide (h > 0) = true := decide_eq_true (by omega)
          have j3b : decide (0 < h) = true := j3
          have j4 : decide (tt - xb ≥ h) = false := decide_eq_false (by omega)
          have j4b : decide (h ≤ tt - xb) = false := j4
          clear q1 q2 q3
          go_wp2_with fail
          refine wp_region_later (by kernel_rfl) (by kernel_rfl) ?_
          go_big_quiet_step (rfl)
          go_big_quiet_step (rfl)
          go_big_quiet_step (rfl)
          go_big_quiet_step (rfl)
          go_big_quiet_step (rfl)
          go_big_quiet_step (rfl)
          go_big_quiet_step (rfl)
          go_big_quiet_step (rfl)
          go_big_quiet_step (rfl)
          go_big_quiet_step (rfl)
          go_big_quiet_step (rfl)
          go_big_quiet_step (rfl)
          go_big_quiet_step (rfl)
          go_big_quiet_step (rfl)
          go_big_quiet_step (rfl)
          go_big_quiet_step (rfl)
          go_big_quiet_step (rfl)
          go_big_quiet_step (rfl)
          go_big_quiet_step (rfl)
          go_big_quiet_step (rfl)
          go_big_quiet_step (rfl)
          go_big_quiet_step (rfl)
          go_big_quiet_step (rfl)
          go_big_quiet_step (rfl)
          go_big_quiet_step (rfl)
          go_big_quiet_step (rfl)
          go_big_quiet_step (rfl)
          go_big_quiet_step (rfl)
          go_big_quiet_step (rfl)
          go_big_quiet_step (rfl)
          go_big_quiet_step (rfl)
          go_big_quiet_step (rfl)
          refine wpQuiet_nil ?_
          rintro w' ⟨u, rfl⟩
          go_wp2_with fail
          go_roundw
          case rel => exact ⟨k + 1, by omega, by go_num, below_step HB.out HB.out.size u.below⟩
          case measure => simp [intOf]; omega
        · have j1 : decide (i > 0) = true := decide_eq_true (by omega)
          have j1b : decide (0 < i) = true := j1
          have j2 : decide (tt - xu ≥ i) = false := decide_eq_false (by omega)
          have j2b : decide (i ≤ tt - xu) = false := j2
          have j3 : decide (h > 0) = false := decide_eq_false (by omega)
          have j3b : decide (0 < h) = false := j3
          clear q1 q2 q3
          go_wp2_with fail
          refine wp_region_later (by kernel_rfl) (by kernel_rfl) ?_
          go_big_quiet_step (rfl)
          go_big_quiet_step (rfl)
          go_big_quiet_step (rfl)
          go_big_quiet_step (rfl)
          go_big_quiet_step (rfl)
          go_big_quiet_step (rfl)
          go_big_quiet_step (rfl)
          go_big_quiet_step (rfl)
          go_big_quiet_step (rfl)
          go_big_quiet_step (rfl)
          go_big_quiet_step (rfl)
          go_big_quiet_step (rfl)
          go_big_quiet_step (rfl)
          go_big_quiet_step (rfl)
          go_big_quiet_step (rfl)
          go_big_quiet_step (rfl)
          go_big_quiet_step (rfl)
          go_big_quiet_step (rfl)
          go_big_quiet_step (rfl)
          go_big_quiet_step (rfl)
          go_big_quiet_step (rfl)
          go_big_quiet_step (rfl)
          go_big_quiet_step (rfl)
          go_big_quiet_step (rfl)
          go_big_quiet_step (rfl)
          go_big_quiet_step (rfl)
          go_big_quiet_step (rfl)
          go_big_quiet_step (rfl)
          go_big_quiet_step (rfl)
          go_big_quiet_step (rfl)
          go_big_quiet_step (rfl)
          go_big_quiet_step (rfl)
          refine wpQuiet_nil ?_
          rintro w' ⟨u, rfl⟩
          go_wp2_with fail
          go_roundw
          case rel => exact ⟨k + 1, by omega, by go_num, below_step HB.out HB.out.size u.below⟩
          case measure => simp [intOf]; omega
        · have j1 : decide (i > 0) = true := decide_eq_true (by omega)
          have j1b : decide (0 < i) = true := j1
          have j2 : decide (tt - xu ≥ i) = false := decide_eq_false (by omega)
          have j2b : decide (i ≤ tt - xu) = false := j2
          have j3 : decide (h > 0) = true := decide_eq_true (by omega)
          have j3b : decide (0 < h) = true := j3
          have j4 : decide (tt - xb ≥ h) = false := decide_eq_false (by omega)
          have j4b : decide (h ≤ tt - xb) = false := j4
          clear q1 q2 q3 q4
          go_wp2_with fail
          refine wp_region_later (by kernel_rfl) (by kernel_rfl) ?_
          go_big_quiet_step (rfl)
          go_big_quiet_step (rfl)
          go_big_quiet_step (rfl)
          go_big_quiet_step (rfl)
          go_big_quiet_step (rfl)
          go_big_quiet_step (rfl)
          go_big_quiet_step (rfl)
          go_big_quiet_step (rfl)
          go_big_quiet_step (rfl)
          go_big_quiet_step (rfl)
          go_big_quiet_step (rfl)
          go_big_quiet_step (rfl)
          go_big_quiet_step (rfl)
          go_big_quiet_step (rfl)
          go_big_quiet_step (rfl)
          go_big_quiet_step (rfl)
          go_big_quiet_step (rfl)
          go_big_quiet_step (rfl)
          go_big_quiet_step (rfl)
          go_big_quiet_step (rfl)
          go_big_quiet_step (rfl)
          go_big_quiet_step (rfl)
          go_big_quiet_step (rfl)
          go_big_quiet_step (rfl)
          go_big_quiet_step (rfl)
          go_big_quiet_step (rfl)
          go_big_quiet_step (rfl)
          go_big_quiet_step (rfl)
          go_big_quiet_step (rfl)
          go_big_quiet_step (rfl)
          go_big_quiet_step (rfl)
          go_big_quiet_step (rfl)
          refine wpQuiet_nil ?_
          rintro w' ⟨u, rfl⟩
          go_wp2_with fail
          go_roundw
          case rel => exact ⟨k + 1, by omega, by go_num, below_step HB.out HB.out.size u.below⟩
          case measure => simp [intOf]; omega
      · have hlt' : ¬ (k : Int) < (nf : Int) := by omega
        go_wp2_with fail
        go_loopw [12] (fun s12 wr => ∃ k : Nat, k ≤ ng ∧ s12 = .int .i64 (k : Int) ∧ Hid (Below w5.heap.size w5 wr)) (fun s12 _ => ng - (intOf s12).toNat)
        case atStart => exact ⟨0, Nat.zero_le _, rfl, HB⟩
        case round =>
          clear HB hk hlt hlt'
          obtain ⟨k, hk, rfl, HB⟩ := hrel
          by_cases hlt : k < ng
          · have hlt' : (k : Int) < (ng : Int) := by omega
            obtain ⟨g', off, cur, ty, fr, x, rfl, hg, hcc, hxk⟩ := (GSl.below UG5.out.sl HB.out).at k (by omega)
            have hcc : ∀ j, j < 36 → cur[off + k * 36 + j]? = (slotV x)[j]? := hcc
            obtain ⟨hox, hu1, hu2, hu3, hu4⟩ := GM.out x (List.mem_of_getElem? hxk)
            have d34 : ∀ u : Later wr, u.world.cell? ⟨g', off + k * 36 + 34, none⟩ = some (.int .i64 x.used) := fun u => ((slf_of hg hcc).below ((later_block hg _ ⟨u, rfl⟩).trans hg.symm)).c34
            have d33 : ∀ u : Later wr, u.world.cell? ⟨g', off + k * 36 + 33, none⟩ = some (.int .i64 x.born) := fun u => ((slf_of hg hcc).below ((later_block hg _ ⟨u, rfl⟩).trans hg.symm)).c33
            have e3 : ∀ u : Later wr, u.world.cell? ⟨w.heap.size, 3, none⟩ = some (.int .i64 i) := fun u => (EI.out _ (below_step HB.out HB.out.size u.below)).1
            have e4 : ∀ u : Later wr, u.world.cell? ⟨w.heap.size, 4, none⟩ = some (.int .i64 h) := fun u => (EI.out _ (below_step HB.out HB.out.size u.below)).2
            have ne1 := Later.ne wr
            obtain ⟨xu, hxu⟩ : ∃ xu, xu = x.used := ⟨_, rfl⟩
            obtain ⟨xb, hxb⟩ : ∃ xb, xb = x.born := ⟨_, rfl⟩
            rw [← hxu] at d34 hox hu1 hu2
            rw [← hxb] at d33 hox hu3 hu4
            clear hg hcc hxk hxu hxb
            rcases old_cases i h tt xu xb hi0 hh0 with ⟨hno, _⟩ | ⟨_, hw⟩
            case inl => rw [hox] at hno; cases hno
            clear hox
            rcases hw with ⟨q1, q2⟩ | ⟨q1, q2, q3⟩ | ⟨q1, q2, q3, q4⟩
            · have j1 : decide (i > 0) = true := decide_eq_true (by omega)
              have j1b : decide (0 < i) = true := j1
              have j2 : decide (tt - xu ≥ i) = true := decide_eq_true (by omega)
              have j2b : decide (i ≤ tt - xu) = true := j2
              clear q1 q2
              go_wp2_with fail
              refine wp_region_later (by kernel_rfl) (by kernel_rfl) ?_
              go_big_quiet_step (rfl)
              go_big_quiet_step (rfl)
              go_big_quiet_step (rfl)
              go_big_quiet_step (rfl)
              go_big_quiet_step (rfl)
              go_big_quiet_step (rfl)
              go_big_quiet_step (rfl)
              go_big_quiet_step (rfl)
              go_big_quiet_step (rfl)
              go_big_quiet_step (rfl)
              go_big_quiet_step (rfl)
              go_big_quiet_step (rfl)
              go_big_quiet_step (rfl)
              go_big_quiet_step (rfl)
              go_big_quiet_step (rfl)
              go_big_quiet_step (rfl)
              go_big_quiet_step (rfl)
              go_big_quiet_step (rfl)
              go_big_quiet_step (rfl)
              go_big_quiet_step (rfl)
              go_big_quiet_step (rfl)
              go_big_quiet_step (rfl)
              go_big_quiet_step (rfl)
              go_big_quiet_step (rfl)
              go_big_quiet_step (rfl)
              go_big_quiet_step (rfl)
              go_big_quiet_step (rfl)
              go_big_quiet_step (rfl)
              go_big_quiet_step (rfl)
              go_big_quiet_step (rfl)
              go_big_quiet_step (rfl)
              go_big_quiet_step (rfl)
              go_big_quiet_step (rfl)
              refine wpQuiet_nil ?_
              rintro w' ⟨u, rfl⟩
              go_wp2_with fail
              go_roundw
              case rel => exact ⟨k + 1, by omega, by go_num, below_step HB.out HB.out.size u.below⟩
              case measure => simp [intOf]; omega
            · have j1 : decide (i > 0) = false := decide_eq_false (by omega)
              have j1b : decide (0 < i) = false := j1
              have j3 : decide (h > 0) = true := decide_eq_true (by omega)
              have j3b : decide (0 < h) = true := j3
              have j4 : decide (tt - xb ≥ h) = true := decide_eq_true (by omega)
              have j4b : decide (h ≤ tt - xb) = true := j4
              clear q1 q2 q3
              go_wp2_with fail
              refine wp_region_later (by kernel_rfl) (by kernel_rfl) ?_
              go_big_quiet_step (rfl)
              go_big_quiet_step (rfl)
              go_big_quiet_step (rfl)
              go_big_quiet_step (rfl)
              go_big_quiet_step (rfl)
              go_big_quiet_step (rfl)
              go_big_quiet_step (rfl)
              go_big_quiet_step (rfl)
              go_big_quiet_step (rfl)
              go_big_quiet_step (rfl)
              go_big_quiet_step (rfl)
              go_big_quiet_step (rfl)
              go_big_quiet_step (rfl)
              go_big_quiet_step (rfl)
              go_big_quiet_step (rfl)
              go_big_quiet_step (rfl)
              go_big_quiet_step (rfl)
              go_big_quiet_step (rfl)
              go_big_quiet_step (rfl)
              go_big_quiet_step (rfl)
              go_big_quiet_step (rfl)
              go_big_quiet_step (rfl)
              go_big_quiet_step (rfl)
              go_big_quiet_step (rfl)
              go_big_quiet_step (rfl)
              go_big_quiet_step (rfl)
              go_big_quiet_step (rfl)
              go_big_quiet_step (rfl)
              go_big_quiet_step (rfl)
              go_big_quiet_step (rfl)
              go_big_quiet_step (rfl)
              go_big_quiet_step (rfl)
              go_big_quiet_step (rfl)
              refine wpQuiet_nil ?_
              rintro w' ⟨u, rfl⟩
              go_wp2_with fail
              go_roundw
              case rel => exact ⟨k + 1, by omega, by go_num, below_step HB.out HB.out.size u.below⟩
              case measure => simp [intOf]; omega
            · have j1 : decide (i > 0) = true := decide_eq_true (by omega)
              have j1b : decide (0 < i) = true := j1
              have j2 : decide (tt - xu ≥ i) = false := decide_eq_false (by omega)
              have j2b : decide (i ≤ tt - xu) = false := j2
              have j3 : decide (h > 0) = true := decide_eq_true (by omega)
              have j3b : decide (0 < h) = true := j3
              have j4 : decide (tt - xb ≥ h) = true := decide_eq_true (by omega)
              have j4b : decide (h ≤ tt - xb) = true := j4
              clear q1 q2 q3 q4
              go_wp2_with fail
              refine wp_region_later (by kernel_rfl) (by kernel_rfl) ?_
              go_big_quiet_step (rfl)
              go_big_quiet_step (rfl)
              go_big_quiet_step (rfl)
              go_big_quiet_step (rfl)
              go_big_quiet_step (rfl)
              go_big_quiet_step (rfl)
              go_big_quiet_step (rfl)
              go_big_quiet_step (rfl)
              go_big_quiet_step (rfl)
              go_big_quiet_step (rfl)
              go_big_quiet_step (rfl)
              go_big_quiet_step (rfl)
              go_big_quiet_step (rfl)
              go_big_quiet_step (rfl)
              go_big_quiet_step (rfl)
              go_big_quiet_step (rfl)
              go_big_quiet_step (rfl)
              go_big_quiet_step (rfl)
              go_big_quiet_step (rfl)
              go_big_quiet_step (rfl)
              go_big_quiet_step (rfl)
              go_big_quiet_step (rfl)
              go_big_quiet_step (rfl)
              go_big_quiet_step (rfl)
              go_big_quiet_step (rfl)
              go_big_quiet_step (rfl)
              go_big_quiet_step (rfl)
              go_big_quiet_step (rfl)
              go_big_quiet_step (rfl)
              go_big_quiet_step (rfl)
              go_big_quiet_step (rfl)
              go_big_quiet_step (rfl)
              go_big_quiet_step (rfl)
              refine wpQuiet_nil ?_
              rintro w' ⟨u, rfl⟩
              go_wp2_with fail
              go_roundw
              case rel => exact ⟨k + 1, by omega, by go_num, below_step HB.out HB.out.size u.below⟩
              case measure => simp [intOf]; omega
          · have hlt' : ¬ (k : Int) < (ng : Int) := by omega
            have hl5 : (nf : Int) + (ng : Int) = (nc : Int) := by omega
            obtain ⟨e3, e4⟩ := EI.out wr HB.out
            have BF : Hid (Below w.heap.size w wr) := below_step B5.out B5.out.size HB.out
            by_cases q1 : i > 0
            · go_wp2_with fail
              go_ret
              exact ⟨by simp, BF.out⟩
            · by_cases q2 : h > 0
              · go_wp2_with fail
                go_ret
                exact ⟨by simp, BF.out⟩
              · have q3 : ng = 0 := GZ.out (by omega) (by omega)
                subst q3
                go_wp2_with fail
                go_ret
                exact ⟨by simp, BF.out⟩
end Go.Proofs.Ytojhckjdkafpmaa
