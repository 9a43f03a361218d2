import Derived.Test.YtojhckjdkafpmaaTcPlay2
namespace Go.Proofs.Ytojhckjdkafpmaa
open Go Go.RowKit
set_option maxRecDepth 20000

theorem mem_bank {S : Bks} {z : Int} {k : Nat} {y : Slt} (h1 : 1 ≤ z) (h3 : z ≤ 3) (h : (slotsT S z)[k]? = some y) : (z = 1 ∧ y ∈ S.c) ∨ (z = 2 ∧ y ∈ S.a) ∨ (z = 3 ∧ y ∈ S.p) := by
  have hm := List.mem_of_getElem? h
  rcases (show z = 1 ∨ z = 2 ∨ z = 3 by omega) with rfl | rfl | rfl
  · exact .inl ⟨rfl, hm⟩
  · exact .inr (.inl ⟨rfl, hm⟩)
  · exact .inr (.inr ⟨rfl, hm⟩)
/-- What a glance tells where a bank has a slot that fits. -/
theorem bank_hit {n : Nat} {R : Rm} {S : Bks} {e : Int} {H : List Int} {z : Int} {k : Nat} {y : Slt} (hi : InvX n R S) (h1 : 1 ≤ z) (h3 : z ≤ 3) (hn : ∀ j : Int, 1 ≤ j → j < z → ∀ (m : Nat) (u : Slt), (slotsT S j)[m]? = some u → mtS hsC e H u = false) (hy : (slotsT S z)[k]? = some y) (hm : mtS hsC e H y = true) :
    ∃ x, peekT S (mtS hsC e H) = (x, true) ∧ x.bank = z ∧ x.epoch = e ∧ hsC x.cube H = true ∧ OkC x.cube ∧ (z = 1 ∨ x.order ≤ y.order) := by
  have fin : ∀ x, mtS hsC e H x = true → x.epoch = e ∧ hsC x.cube H = true := fun x hx => by unfold mtS at hx; simpa using hx
  have all : ∀ j : Int, 1 ≤ j → j < z → ∀ u ∈ slotsT S j, mtS hsC e H u = false := fun j q1 q2 u hu => by
    obtain ⟨m, hm⟩ := List.mem_iff_getElem?.1 hu
    exact hn j q1 q2 m u hm
  rcases mem_bank h1 h3 hy with ⟨rfl, hc⟩ | ⟨rfl, hc⟩ | ⟨rfl, hc⟩
  · obtain ⟨x, q1, q2, q3⟩ := peek_bank1 hc hm
    exact ⟨x, q1, (hi.inv.c x q2).1, (fin x q3).1, (fin x q3).2, (hi.inv.c x q2).2.2.2.2.2.2.2, .inl rfl⟩
  · obtain ⟨x, q1, q2, q3, q4⟩ := peek_bank2 (all 1 (by decide) (by decide)) hc hm
    exact ⟨x, q1, (hi.inv.a x q2).1, (fin x q3).1, (fin x q3).2, (hi.inv.a x q2).2.2.2.2.2.2.2, .inr q4⟩
  · obtain ⟨x, q1, q2, q3, q4⟩ := peek_bank3 (all 1 (by decide) (by decide)) (all 2 (by decide) (by decide)) hc hm
    exact ⟨x, q1, (hi.inv.p x q2).1, (fin x q3).1, (fin x q3).2, (hi.inv.p x q2).2.2.2.2.2.2.2, .inr q4⟩
theorem bank_none {S : Bks} {e : Int} {H : List Int} (hn : ∀ j : Int, 1 ≤ j → j < 4 → ∀ (m : Nat) (u : Slt), (slotsT S j)[m]? = some u → mtS hsC e H u = false) : peekT S (mtS hsC e H) = (zeroS, false) := by
  have all : ∀ j : Int, 1 ≤ j → j < 4 → ∀ u ∈ slotsT S j, mtS hsC e H u = false := fun j q1 q2 u hu => by
    obtain ⟨m, hm⟩ := List.mem_iff_getElem?.1 hu
    exact hn j q1 q2 m u hm
  exact peek_none (all 1 (by decide) (by decide)) (all 2 (by decide) (by decide)) (all 3 (by decide) (by decide))
theorem wl_valW {ops : Array Oper} {rest : List Oper} {o : Oper} {a : Act} {w : World} {Q : Exit → Act → World → Prop} (hw : Region.wanted o (yielded ops a.tmps) = true) (v : Value) (hx : (execOp a.eval o).run Try.prog w = .ok (.value v) w) (h : wpList Try.prog ops Q rest (a.put o.dst v) w) : wpList Try.prog ops Q (o :: rest) a w := by
  refine wpList_step fun K hK => ?_
  rw [if_pos hw]
  unfold Oper.wp
  rw [hx]
  exact hK _ _ h
set_option maxHeartbeats 32000000 in
theorem lawBanks (c a q i h : Int) (A : List ActM) (lv : Value) (w : World) (hl : GSl ActE actV w lv A) (hA : ∀ x ∈ A, OkA x) (e : Int) (H : List Int) (hH : Byt H) :
    Calls Try.prog 5 #[.agg (roomA c a q i h), lv, .int .i64 e, .agg (hv H)] w fun e w' => e = .returned (.bool true) ∧ Below w.heap.size w w' := by
  have AW : Hid (∀ W, Calls Try.prog 9 #[] W fun r w' => r = .returned (.bool true) ∧ Below W.heap.size W w') := awakeT_any
  obtain ⟨w0, hw0⟩ : ∃ w0, w0 = (w.alloc (.cells (roomA c a q i h) 23)).alloc (.cells (hv H) 34) := ⟨_, rfl⟩
  have B0 : Hid (Below w.heap.size w w0) := by show Below _ _ _; rw [hw0]; exact ((Below.refl _ _).alloc (Nat.le_refl _) _).alloc (by simp) _
  have R0 : Hid (w0.heap[w.heap.size]? = some (.cells (roomA c a q i h) 23 (0, 0))) := by show _ = _; rw [hw0]; exact heap_past _ _ _ _ (heap_new _ _ _ rfl)
  have H0 : Hid (w0.heap[w.heap.size + 1]? = some (.cells (hv H) 34 (0, 0))) := by show _ = _; rw [hw0]; exact heap_new _ _ _ (by simp)
  have haw := AW.out w0
  have HL0 : Hid (GSl ActE actV w lv A) := hl
  have HA : Hid (∀ x ∈ A, OkA x) := hA
  rw [hw0] at haw
  obtain ⟨ol, capl, rfl, _, _⟩ := hl.slice
  clear hl hA AW
  go_enter Try.func5, Try.ntmps5
  go_wp2_with (go_at_call 9; refine haw.mono ?_; rintro e w1 ⟨rfl, hb1⟩; refine of_stopS ?_)
  unfold StopS
  rw [← hw0] at hb1
  have B1 : Hid (Below w.heap.size w w1) := below_step B0.out B0.out.size hb1
  have R1 : Hid (w1.heap[w.heap.size]? = some (.cells (roomA c a q i h) 23 (0, 0))) := (hb1.block _ (Array.getElem?_eq_some_iff.1 R0.out).1).trans R0.out
  have H1 : Hid (w1.heap[w.heap.size + 1]? = some (.cells (hv H) 34 (0, 0))) := (hb1.block _ (Array.getElem?_eq_some_iff.1 H0.out).1).trans H0.out
  clear hb1 haw R0 B0 H0 hw0
  by_cases hr : OkR c a q i h
  case neg =>
    have hpl := played_no c a q i h hr (.slice ol A.length capl) w1
    clear hr
    go_wp2_with (first | ((with_reducible refine wl_gT 23 _ rfl ?_); refine wl_ldT rfl 23 _ rfl ⟨w.heap.size, 0, none⟩ rfl (.agg (roomA c a q i h)) (room_load R1.out) ?_) | (go_at_call 17; refine hpl.mono ?_; rintro e w2 ⟨rfl, hb2⟩; refine of_stopS ?_))
    unfold StopS
    have B2 : Hid (Below w.heap.size w w2) := below_step B1.out B1.out.size hb2
    clear hb2 hpl
    go_wp2_with fail
    go_ret
    exact ⟨by simp, B2.out⟩
  case pos =>
    have hpl := played_yes c a q i h hr A (.slice ol A.length capl) w1 (GSl.below HL0.out B1.out) HA.out
    have HR : Hid (OkR c a q i h) := hr
    clear hr HL0 HA
    obtain ⟨R, hRR⟩ : ∃ R, R = rmOf c a q i h := ⟨_, rfl⟩
    have HRR : Hid (R = rmOf c a q i h) := hRR
    rw [← hRR] at hpl
    clear hRR
    go_wp2_with (first | ((with_reducible refine wl_gT 23 _ rfl ?_); refine wl_ldT rfl 23 _ rfl ⟨w.heap.size, 0, none⟩ rfl (.agg (roomA c a q i h)) (room_load R1.out) ?_) | (go_at_call 17; refine hpl.mono ?_; rintro e w2 ⟨B, n, p, g, r, gr, S, rfl, hn60, L, v1, v2, v3, vl, hRun⟩; refine of_stopS ?_))
    unfold StopS
    have B2 : Hid (Below w.heap.size w w2) := below_step B1.out B1.out.size hRun.below
    have R2 : Hid (w2.heap[w.heap.size]? = some (.cells (roomA c a q i h) 23 (0, 0))) := (hRun.below.block _ (Array.getElem?_eq_some_iff.1 R1.out).1).trans R1.out
    have H2 : Hid (w2.heap[w.heap.size + 1]? = some (.cells (hv H) 34 (0, 0))) := (hRun.below.block _ (Array.getElem?_eq_some_iff.1 H1.out).1).trans H1.out
    have T2 : Hid (TabV B w2 g R S v1 v2 v3) := hRun.pl.two.t
    have IV : Hid (InvX n R S) := hRun.pl.inv
    have LN : Hid (∀ b, (bankL S b).length ≤ 1000000) := hRun.pl.lens
    have HWB : Hid (w.heap.size ≤ B) := Nat.le_trans B1.out.size hRun.hB
    clear hRun hpl R1 B1 H1
    have HHl := hH.1
    have HAS : Hid (∀ x : Slt, OkC x.cube → ∀ W, Calls Try.prog 19 #[.agg (cv (pad x.cube.1) (pad x.cube.2)), .agg (hv H)] W fun r w' => r = .returned (.bool (hsC x.cube H)) ∧ Below W.heap.size W w') := by intro x hx W; exact hasC_any x.cube H hx hH W
    have HIT : Hid (∀ (z : Int) (k : Nat) (y : Slt), 1 ≤ z → z ≤ 3 → (∀ j : Int, 1 ≤ j → j < z → ∀ (m : Nat) (u : Slt), (slotsT S j)[m]? = some u → mtS hsC e H u = false) → (slotsT S z)[k]? = some y → mtS hsC e H y = true → ∃ x, peekT S (mtS hsC e H) = (x, true) ∧ x.bank = z ∧ x.epoch = e ∧ hsC x.cube H = true ∧ OkC x.cube ∧ (z = 1 ∨ x.order ≤ y.order)) := fun z k y h1 h3 hn hy hm => bank_hit IV.out h1 h3 hn hy hm
    have NON : Hid ((∀ j : Int, 1 ≤ j → j < 4 → ∀ (m : Nat) (u : Slt), (slotsT S j)[m]? = some u → mtS hsC e H u = false) → peekT S (mtS hsC e H) = (zeroS, false)) := fun hn => bank_none hn
    have SOK : Hid (∀ (z : Int) (k : Nat) (y : Slt), 1 ≤ z → z ≤ 3 → (slotsT S z)[k]? = some y → OkC y.cube) := by
      intro z k y h1 h3 hy
      rcases mem_bank h1 h3 hy with ⟨_, hc⟩ | ⟨_, hc⟩ | ⟨_, hc⟩
      · exact (IV.out.inv.c y hc).2.2.2.2.2.2.2
      · exact (IV.out.inv.a y hc).2.2.2.2.2.2.2
      · exact (IV.out.inv.p y hc).2.2.2.2.2.2.2
    have LNZ : Hid (∀ z, (slotsT S z).length ≤ 1000000) := by
      intro z
      unfold slotsT
      split
      · exact LN.out _
      · simp
    have hp1 := peek_any B w2 g R S v1 v2 v3 T2.out e H hH IV.out.ord fun b y hy => (IV.out.bank b y hy).2.2.2.2.2.2.2
    obtain ⟨x, hx⟩ : ∃ x, x = (peekT S (mtS hsC e H)).1 := ⟨_, rfl⟩
    obtain ⟨b1, hb1⟩ : ∃ b1, b1 = (peekT S (mtS hsC e H)).2 := ⟨_, rfl⟩
    have PX : Hid (peekT S (mtS hsC e H) = (x, b1)) := by show _ = _; rw [hx, hb1]
    have PX' : peekT S (mtS hsC e H) = (x, b1) := PX.out
    rw [PX'] at hp1
    clear hx hb1 PX' hH
    go_wp2_with (first | ((with_reducible refine wl_gH _ rfl ?_); refine wl_loadHg rfl _ rfl (w.heap.size + 1) rfl H H2.out HHl ?_) | (go_at_call 18; refine hp1.mono ?_; rintro e w3 ⟨rfl, hb3⟩; refine of_stopS ?_))
    unfold StopS
    obtain ⟨w4, hw4⟩ : ∃ w4, w4 = w3.alloc (.cells (slotV x) 38) := ⟨_, rfl⟩
    have B4 : Hid (Below w2.heap.size w2 w4) := by show Below _ _ _; rw [hw4]; exact below_step hb3 hb3.size ((Below.refl _ _).alloc (Nat.le_refl _) _)
    have X4 : Hid (w4.heap[w3.heap.size]? = some (.cells (slotV x) 38 (0, 0))) := by show _ = _; rw [hw4]; exact heap_new _ _ _ rfl
    have H4 : Hid (w4.heap[w.heap.size + 1]? = some (.cells (hv H) 34 (0, 0))) := (B4.out.block _ (Array.getElem?_eq_some_iff.1 H2.out).1).trans H2.out
    have T4 : Hid (TabV B w4 g R S v1 v2 v3) := T2.out.below B4.out
    have BW4 : Hid (Below w.heap.size w w4) := below_step B2.out B2.out.size B4.out
    clear hb3 hp1 H2 T2 B4
    go_wp2_with (first | ((with_reducible refine wl_gA rfl ?_); refine wl_allocS rfl rfl ?_; try rw [sz_alloc]) | ((with_reducible refine wl_gS _ _ rfl ?_); refine wl_storeS rfl _ _ rfl w3.heap.size x zeroS rfl rfl (heap_new _ _ _ rfl) _ (setRow_new _ _ _ _ _ rfl) ?_); refine of_stopS ?_)
    unfold StopS
    rw [← hw4]
    clear hw4
    obtain ⟨px, hpx⟩ : ∃ px, px = w3.heap.size := ⟨_, rfl⟩
    rw [← hpx] at X4
    rw [← hpx]
    clear hpx
    have SLS : Hid (∀ z W, Below w4.heap.size w4 W → Calls Try.prog 14 #[.pointer (some ⟨g, 0, none⟩), .int .i64 z] W fun e w' => (∃ u, e = .returned u ∧ SlotsAt W.heap.size w' u (slotsT S z)) ∧ Below W.heap.size W w') := fun z W hb => slots_any B W g R S v1 v2 v3 (T4.out.below hb) z LN.out
    go_wp2_with fail
    go_loopw [12] (fun s12 wr => ∃ z : Int, 1 ≤ z ∧ z ≤ 4 ∧ s12 = .int .i64 z ∧ Hid (∀ j : Int, 1 ≤ j → j < z → ∀ (m : Nat) (u : Slt), (slotsT S j)[m]? = some u → mtS hsC e H u = false) ∧ Hid (Below w4.heap.size w4 wr)) (fun s12 _ => (4 - intOf s12).toNat)
    case atStart => exact ⟨1, by decide, by decide, rfl, fun j h1 h2 => by omega, Below.refl _ _⟩
    case round =>
      obtain ⟨z, hz1, hz4, rfl, HP, HB0⟩ := hrel
      by_cases hz : z ≤ 3
      · have hsl := SLS.out z wr HB0.out
        go_wp2_with (go_at_call 14; refine hsl.mono ?_; rintro e w5 ⟨⟨u5, rfl, hu5⟩, hb5⟩; refine of_stopS ?_)
        unfold StopS
        have B5 : Hid (Below w4.heap.size w4 w5) := below_step HB0.out HB0.out.size hb5
        obtain ⟨C, hC⟩ : ∃ C, C = slotsT S z := ⟨_, rfl⟩
        have HCC : Hid (C = slotsT S z) := hC
        rw [← hC] at hu5
        have LC : Hid (C.length ≤ 1000000) := by rw [hC]; exact LNZ.out z
        have U5 : Hid (SlotsAt wr.heap.size w5 u5 C) := hu5
        obtain ⟨o5, cap5, rfl, hc1, hc2⟩ := hu5.slice
        obtain ⟨n5, hn5⟩ : ∃ n5, n5 = C.length := ⟨_, rfl⟩
        rw [← hn5] at U5 hc1 LC
        rw [← hn5]
        have HN5 : Hid (n5 = C.length) := hn5
        have hlc : n5 ≤ 1000000 := LC.out
        unfold maxLen at hc2
        clear hu5 hb5 hsl hC hn5 HB0
        go_wp2_with fail
        go_loopw [14] (fun s14 wr => ∃ k : Nat, k ≤ n5 ∧ s14 = .int .i64 (k : Int) ∧ Hid (∀ (m : Nat) (u : Slt), m < k → C[m]? = some u → mtS hsC e H u = false) ∧ Hid (Below w5.heap.size w5 wr)) (fun s14 _ => n5 - (intOf s14).toNat)
        case atStart => exact ⟨0, Nat.zero_le _, rfl, fun m u hm => by omega, Below.refl _ _⟩
        case round =>
          obtain ⟨k, hk, rfl, HQ, HB⟩ := hrel
          by_cases hlt : k < n5
          · have hlt' : (k : Int) < (n5 : Int) := by omega
            obtain ⟨g', off, cur, ty, fr, y, rfl, hg, hcc, hyk⟩ := (GSl.below U5.out.sl HB.out).at k hlt
            have hcc : ∀ j, j < 36 → cur[off + k * 36 + j]? = (slotV y)[j]? := hcc
            have K1 : Hid (wr.heap[g']? = some (.cells cur ty fr)) := hg
            have HC1 : Hid (∀ j, j < 26 → cur[off + k * 36 + 4 + j]? = (cv (pad y.cube.1) (pad y.cube.2))[j]?) := cube_row hg hcc
            have HY : Hid (C[k]? = some y) := hyk
            have HYO : Hid (OkC y.cube) := SOK.out z k y hz1 hz (by rw [← HCC.out]; exact hyk)
            have e1 : ∀ u : Later wr, u.world.cell? ⟨g', off + k * 36 + 1, none⟩ = some (.int .i64 y.epoch) := fun u => ((slf_of hg hcc).below ((later_block hg _ ⟨u, rfl⟩).trans hg.symm)).c1
            have e3' : ∀ W, Below wr.heap.size wr W → W.cell? ⟨g', off + k * 36 + 3, none⟩ = some (.int .i64 y.order) := fun W hb => ((slf_of hg hcc).below ((hb.block _ (Array.getElem?_eq_some_iff.1 hg).1))).c3
            have E3 : Hid _ := e3'
            have B9 : Hid (Below w4.heap.size w4 wr) := below_step B5.out B5.out.size HB.out
            have HR1 : Hid (wr.heap[w.heap.size + 1]? = some (.cells (hv H) 34 (0, 0))) := (B9.out.block _ (Array.getElem?_eq_some_iff.1 H4.out).1).trans H4.out
            have ne1 := Later.ne wr
            have HM : Hid (mtS hsC e H y = ((y.epoch == e) && hsC y.cube H)) := rfl
            obtain ⟨ye, hye⟩ : ∃ ye, ye = y.epoch := ⟨_, rfl⟩
            rw [← hye] at e1 HM
            clear hg hcc hyk hye e3'
            by_cases he : ye = e
            · subst he
              have hed : (ye == ye) = true := by simp
              rcases Bool.eq_false_or_eq_true (hsC y.cube H) with hh | hh
              · have HMM : Hid (mtS hsC ye H y = true) := by show _ = _; rw [HM.out, hh, hed]; rfl
                have hcall : ∀ W, Calls Try.prog 19 #[.agg (cv (pad y.cube.1) (pad y.cube.2)), .agg (hv H)] W fun r w' => r = .returned (.bool true) ∧ Below W.heap.size W w' := by intro W; rw [← hh]; exact HAS.out y HYO.out W
                clear hh HM
                go_wp2_with fail
                refine wp_region_later (by kernel_rfl) (by kernel_rfl) ?_
                go_big_quiet_step (rfl)
                go_big_quiet_step (rfl)
                go_big_quiet_step (rfl)
                go_big_quiet_step (rfl)
                go_big_quiet_step (rfl)
                go_big_quiet_step (rfl)
                go_big_quiet_step (rfl)
                go_big_quiet_step (rfl)
                go_big_quiet_step (rfl)
                go_big_quiet_step (rfl)
                go_big_quiet_step (rfl)
                go_big_quiet_step (rfl)
                refine qlCw rfl _ rfl g' (off + k * 36 + 4) rfl cur _ _ (pad y.cube.1) (pad y.cube.2) (pad_len _) (pad_len _) (later_block K1.out) HC1.out ?_
                simp only [Act.put, List.setIfInBounds_toArray, List.set_cons_succ, List.set_cons_zero]
                refine qlH rfl _ rfl (w.heap.size + 1) rfl H HR1.out HHl ?_
                simp only [Act.put, List.setIfInBounds_toArray, List.set_cons_succ, List.set_cons_zero]
                go_big_quiet_want; go_big_quiet_op
                refine ⟨_, fun u => Calls.later_of (hcall u.world), ?_⟩
                go_big_quiet_on
                go_big_quiet_step (rfl)
                refine wpQuiet_nil ?_
                rintro w' ⟨u, rfl⟩
                obtain ⟨x', hx1, hx2, hx3, hx4, hx5, hx6⟩ := HIT.out z k y hz1 hz HP.out (by rw [← HCC.out]; exact HY.out) HMM.out
                have hpx := PX.out.symm.trans hx1
                simp only [Prod.mk.injEq] at hpx
                obtain ⟨rfl, rfl⟩ := hpx
                have BW : Hid (Below wr.heap.size wr u.world) := u.below
                obtain ⟨wz, hwz⟩ : ∃ wz, u.world = wz := ⟨_, rfl⟩
                rw [hwz] at BW
                rw [hwz]
                clear hwz ne1 e1 hcall hx1
                have BZ : Hid (Below w4.heap.size w4 wz) := below_step B9.out B9.out.size BW.out
                have BF : Hid (Below w.heap.size w wz) := below_step BW4.out BW4.out.size BZ.out
                have X9 : Hid (wz.heap[px]? = some (.cells (slotV x) 38 (0, 0))) := (BZ.out.block _ (Array.getElem?_eq_some_iff.1 X4.out).1).trans X4.out
                have H9 : Hid (wz.heap[w.heap.size + 1]? = some (.cells (hv H) 34 (0, 0))) := (BZ.out.block _ (Array.getElem?_eq_some_iff.1 H4.out).1).trans H4.out
                have d0 : ∀ u : Later wz, u.world.cell? ⟨px, 0, none⟩ = some (.int .i64 z) := fun u => by have h9 := (later_slf X9.out (slf_own X9.out) u).c0; rw [hx2] at h9; exact h9
                have d1 : ∀ u : Later wz, u.world.cell? ⟨px, 1, none⟩ = some (.int .i64 ye) := fun u => by have h9 := (later_slf X9.out (slf_own X9.out) u).c1; rw [hx3] at h9; simpa using h9
                have d3 : ∀ u : Later wz, u.world.cell? ⟨px, 3, none⟩ = some (.int .i64 x.order) := fun u => by have h9 := (later_slf X9.out (slf_own X9.out) u).c3; simpa using h9
                have dy : ∀ u : Later wz, u.world.cell? ⟨g', off + k * 36 + 3, none⟩ = some (.int .i64 y.order) := fun u => E3.out _ (below_step BW.out BW.out.size u.below)
                have hcx : ∀ W, Calls Try.prog 19 #[.agg (cv (pad x.cube.1) (pad x.cube.2)), .agg (hv H)] W fun r w' => r = .returned (.bool true) ∧ Below W.heap.size W w' := by intro W; rw [← hx4]; exact HAS.out x hx5 W
                have ne1 := Later.ne wz
                have zd : (z == z) = true := by simp
                have yd : (ye == ye) = true := by simp
                obtain ⟨xo, hxo⟩ : ∃ xo, xo = x.order := ⟨_, rfl⟩
                obtain ⟨yo, hyo⟩ : ∃ yo, yo = y.order := ⟨_, rfl⟩
                rw [← hxo] at d3 hx6
                rw [← hyo] at dy hx6
                clear hx2 hx3 hx4 hx5 hxo hyo
                by_cases hz' : z = 1
                · have z1 : (z == 1) = true := by rw [hz']; rfl
                  clear hz' hx6
                  go_wp2_with fail
                  refine wp_region_later (by kernel_rfl) (by kernel_rfl) ?_
                  go_big_quiet_step (rfl)
                  go_big_quiet_step (rfl)
                  go_big_quiet_step (rfl)
                  go_big_quiet_step (rfl)
                  go_big_quiet_step (rfl)
                  go_big_quiet_step (rfl)
                  go_big_quiet_step (rfl)
                  go_big_quiet_step (rfl)
                  go_big_quiet_step (rfl)
                  go_big_quiet_step (rfl)
                  go_big_quiet_step (rfl)
                  go_big_quiet_step (rfl)
                  go_big_quiet_step (rfl)
                  go_big_quiet_step (rfl)
                  go_big_quiet_step (rfl)
                  refine qlCw rfl _ rfl px 4 rfl (slotV x) _ _ (pad x.cube.1) (pad x.cube.2) (pad_len _) (pad_len _) (later_block X9.out) (slotV_cube x) ?_
                  simp only [Act.put, List.setIfInBounds_toArray, List.set_cons_succ, List.set_cons_zero]
                  refine qlH rfl _ rfl (w.heap.size + 1) rfl H H9.out HHl ?_
                  simp only [Act.put, List.setIfInBounds_toArray, List.set_cons_succ, List.set_cons_zero]
                  go_big_quiet_want; go_big_quiet_op
                  refine ⟨_, fun u => Calls.later_of (hcx u.world), ?_⟩
                  go_big_quiet_on
                  go_big_quiet_step (rfl)
                  go_big_quiet_step (rfl)
                  go_big_quiet_step (rfl)
                  go_big_quiet_step (rfl)
                  go_big_quiet_step (rfl)
                  go_big_quiet_step (rfl)
                  go_big_quiet_step (rfl)
                  go_big_quiet_step (rfl)
                  go_big_quiet_step (rfl)
                  go_big_quiet_step (rfl)
                  go_big_quiet_step (rfl)
                  go_big_quiet_step (rfl)
                  go_big_quiet_step (rfl)
                  go_big_quiet_step (rfl)
                  go_big_quiet_step (rfl)
                  go_big_quiet_step (rfl)
                  refine wpQuiet_nil ?_
                  rintro w' ⟨u, rfl⟩
                  go_wp2_with fail
                  go_ret
                  exact ⟨by simp, below_step BF.out BF.out.size u.below⟩
                · have z1 : (z == 1) = false := by simpa using hz'
                  have ld : decide (xo ≤ yo) = true := decide_eq_true (by omega)
                  clear hz' hx6
                  go_wp2_with fail
                  refine wp_region_later (by kernel_rfl) (by kernel_rfl) ?_
                  go_big_quiet_step (rfl)
                  go_big_quiet_step (rfl)
                  go_big_quiet_step (rfl)
                  go_big_quiet_step (rfl)
                  go_big_quiet_step (rfl)
                  go_big_quiet_step (rfl)
                  go_big_quiet_step (rfl)
                  go_big_quiet_step (rfl)
                  go_big_quiet_step (rfl)
                  go_big_quiet_step (rfl)
                  go_big_quiet_step (rfl)
                  go_big_quiet_step (rfl)
                  go_big_quiet_step (rfl)
                  go_big_quiet_step (rfl)
                  go_big_quiet_step (rfl)
                  refine qlCw rfl _ rfl px 4 rfl (slotV x) _ _ (pad x.cube.1) (pad x.cube.2) (pad_len _) (pad_len _) (later_block X9.out) (slotV_cube x) ?_
                  simp only [Act.put, List.setIfInBounds_toArray, List.set_cons_succ, List.set_cons_zero]
                  refine qlH rfl _ rfl (w.heap.size + 1) rfl H H9.out HHl ?_
                  simp only [Act.put, List.setIfInBounds_toArray, List.set_cons_succ, List.set_cons_zero]
                  go_big_quiet_want; go_big_quiet_op
                  refine ⟨_, fun u => Calls.later_of (hcx u.world), ?_⟩
                  go_big_quiet_on
                  go_big_quiet_step (rfl)
                  go_big_quiet_step (rfl)
                  go_big_quiet_step (rfl)
                  go_big_quiet_step (rfl)
                  go_big_quiet_step (rfl)
                  go_big_quiet_step (rfl)
                  go_big_quiet_step (rfl)
                  go_big_quiet_step (rfl)
                  go_big_quiet_step (rfl)
                  go_big_quiet_step (rfl)
                  go_big_quiet_step (rfl)
                  go_big_quiet_step (rfl)
                  go_big_quiet_step (rfl)
                  go_big_quiet_step (rfl)
                  go_big_quiet_step (rfl)
                  go_big_quiet_step (rfl)
                  refine wpQuiet_nil ?_
                  rintro w' ⟨u, rfl⟩
                  go_wp2_with fail
                  go_ret
                  exact ⟨by simp, below_step BF.out BF.out.size u.below⟩
              · have HMM : Hid (mtS hsC ye H y = false) := by show _ = _; rw [HM.out, hh, hed]; rfl
                have hcall : ∀ W, Calls Try.prog 19 #[.agg (cv (pad y.cube.1) (pad y.cube.2)), .agg (hv H)] W fun r w' => r = .returned (.bool false) ∧ Below W.heap.size W w' := by intro W; rw [← hh]; exact HAS.out y HYO.out W
                clear hh HM
                go_wp2_with fail
                refine wp_region_later (by kernel_rfl) (by kernel_rfl) ?_
                go_big_quiet_step (rfl)
                go_big_quiet_step (rfl)
                go_big_quiet_step (rfl)
                go_big_quiet_step (rfl)
                go_big_quiet_step (rfl)
                go_big_quiet_step (rfl)
                go_big_quiet_step (rfl)
                go_big_quiet_step (rfl)
                go_big_quiet_step (rfl)
                go_big_quiet_step (rfl)
                go_big_quiet_step (rfl)
                go_big_quiet_step (rfl)
                refine qlCw rfl _ rfl g' (off + k * 36 + 4) rfl cur _ _ (pad y.cube.1) (pad y.cube.2) (pad_len _) (pad_len _) (later_block K1.out) HC1.out ?_
                simp only [Act.put, List.setIfInBounds_toArray, List.set_cons_succ, List.set_cons_zero]
                refine qlH rfl _ rfl (w.heap.size + 1) rfl H HR1.out HHl ?_
                simp only [Act.put, List.setIfInBounds_toArray, List.set_cons_succ, List.set_cons_zero]
                go_big_quiet_want; go_big_quiet_op
                refine ⟨_, fun u => Calls.later_of (hcall u.world), ?_⟩
                go_big_quiet_on
                go_big_quiet_step (rfl)
                refine wpQuiet_nil ?_
                rintro w' ⟨u, rfl⟩
                go_wp2_with fail
                go_roundw
                case rel =>
                  refine ⟨k + 1, by omega, by go_num, fun m v hm hv => ?_, below_step HB.out HB.out.size u.below⟩
                  by_cases em : m = k
                  · subst em; rw [HY.out] at hv; cases hv; exact HMM.out
                  · exact HQ.out m v (by omega) hv
                case measure => simp [intOf]; omega
            · have hed : (ye == e) = false := by simpa using he
              have HMM : Hid (mtS hsC e H y = false) := by show _ = _; rw [HM.out, hed]; rfl
              clear HM
              go_wp2_with fail
              refine wp_region_later (by kernel_rfl) (by kernel_rfl) ?_
              go_big_quiet_step (rfl)
              go_big_quiet_step (rfl)
              go_big_quiet_step (rfl)
              go_big_quiet_step (rfl)
              go_big_quiet_step (rfl)
              go_big_quiet_step (rfl)
              go_big_quiet_step (rfl)
              go_big_quiet_step (rfl)
              go_big_quiet_step (rfl)
              go_big_quiet_step (rfl)
              go_big_quiet_step (rfl)
              go_big_quiet_step (rfl)
              go_big_quiet_step (rfl)
              go_big_quiet_step (rfl)
              go_big_quiet_step (rfl)
              go_big_quiet_step (rfl)
              refine wpQuiet_nil ?_
              rintro w' ⟨u, rfl⟩
              go_wp2_with fail
              go_roundw
              case rel =>
                refine ⟨k + 1, by omega, by go_num, fun m v hm hv => ?_, below_step HB.out HB.out.size u.below⟩
                by_cases em : m = k
                · subst em; rw [HY.out] at hv; cases hv; exact HMM.out
                · exact HQ.out m v (by omega) hv
              case measure => simp [intOf]; omega
          · have hlt' : ¬ (k : Int) < (n5 : Int) := by omega
            have HP' : Hid (∀ j : Int, 1 ≤ j → j < z + 1 → ∀ (m : Nat) (u : Slt), (slotsT S j)[m]? = some u → mtS hsC e H u = false) := by
              intro j hj1 hj2 m v hv
              by_cases hjz : j = z
              · subst hjz
                rw [← HCC.out] at hv
                exact HQ.out m v (by have h1 := (List.getElem?_eq_some_iff.1 hv).1; have h2 := HN5.out; omega) hv
              · exact HP.out j hj1 (by omega) m v hv
            have B9 : Hid (Below w4.heap.size w4 wr) := below_step B5.out B5.out.size HB.out
            go_wp2_with fail
            go_roundw
            case rel => exact ⟨z + 1, by omega, by omega, by go_num, HP', B9⟩
            case measure => simp [intOf]; omega
      · have hz' : ¬ z ≤ 3 := hz
        have HZ : Hid (z = 4) := by show _ = _; omega
        have hpn := NON.out (by have h9 := HP.out; rw [HZ.out] at h9; exact h9)
        have hpx := PX.out.symm.trans hpn
        simp only [Prod.mk.injEq] at hpx
        obtain ⟨rfl, rfl⟩ := hpx
        clear hpn
        have X9 : Hid (wr.heap[px]? = some (.cells (slotV zeroS) 38 (0, 0))) := (HB0.out.block _ (Array.getElem?_eq_some_iff.1 X4.out).1).trans X4.out
        have ER : ∀ W, (Op.equalIn 10000 38 (.agg (slotV zeroS)) (.agg (slotV zeroS))).run Try.prog W = .ok true W := fun W => by rw [eqSlot, eqS_self]
        have G := egS
        have BF : Hid (Below w.heap.size w wr) := below_step BW4.out BW4.out.size HB0.out
        go_wp2_with (first | ((with_reducible refine wl_gL _ rfl ?_); refine wl_loadS rfl _ rfl px 0 rfl zeroS (ld_own X9.out) ?_) | ((with_reducible refine wl_gBT _ rfl ?_); refine wl_valW rfl (.agg (slotV zeroS)) (run_buildOpT rfl _ _ #[] (by simp) _ (build_zero _)) ?_))
        go_ret
        exact ⟨by simp, BF.out⟩
end Go.Proofs.Ytojhckjdkafpmaa
