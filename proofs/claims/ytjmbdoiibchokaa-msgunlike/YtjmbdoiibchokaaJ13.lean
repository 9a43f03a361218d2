import Derived.Test.YtjmbdoiibchokaaJ11
import Derived.Test.YtjmbdoiibchokaaJ12
import Derived.Test.YtjmbdoiibchokaaJ9
namespace Go.Proofs.Ytjmbdoiibchokaa
open Go Go.Lib Go.RowKit
set_option maxRecDepth 20000

/-! The reference's Encode. -/
theorem flat_snoc {m : MsgM} {l : List Nat} {p j : Nat} (hj : l[p]? = some j) : (l.take (p + 1)).flatMap (fieldB m) = (l.take p).flatMap (fieldB m) ++ fieldB m j := by
  rw [List.take_add_one, hj, List.flatMap_append]
  simp
theorem flat_bound {m : MsgM} (hm : okM m) (p : Nat) : (((fldK m.kind).take p).flatMap (fieldB m)).length ≤ 208 := by
  rw [body_len hm]
  exact sum_le m.kind p
theorem conv16 (x : Nat) (hx : x < 9223372036854775808) (w : World) : (convert 3 57 (.int .i64 (x : Int))).run Try.prog w = .ok (.int .u64 (x : Int)) w := by
  simp [convert, run_underlying Try.underlying3, run_underlying Try.underlying57, go_sem]
  rw [IntKind.wrap_u64]
  omega
set_option maxHeartbeats 16000000 in
theorem r16enc_any (m : MsgM) (hm : okM m) (w : World) : Calls Try.prog 12 #[.agg (msA m)] w fun e w' => ∃ u, e = .returned (.tuple #[u, .int .i64 (encM m).2]) ∧ BOwn w.heap.size w' u (encM m).1 ∧ Below w.heap.size w w' := by
  obtain ⟨w1, hw1⟩ : ∃ w1, w1 = w.alloc (.cells (msA m) 27) := ⟨_, rfl⟩
  have g1 : w1.heap[w.heap.size]? = some (.cells (msA m) 27 (0, 0)) := by rw [hw1]; exact heap_new _ _ _ rfl
  have B1 : Below w.heap.size w w1 := by rw [hw1]; exact (Below.refl _ _).alloc (Nat.le_refl _) _
  have hs1 := (Array.getElem?_eq_some_iff.1 g1).1
  have g10 : (w.alloc (.cells (msA m) 27)).heap[w.heap.size]? = some (.cells (msA m) 27 (0, 0)) := heap_new _ _ _ rfl
  have hms := msA_size hm
  have CR : Hid (∀ W, Calls Try.prog 10 #[.agg (msA m)] W fun e w' => e = .returned (.bool (rightM m)) ∧ Below W.heap.size W w') := r16right_any m hm
  by_cases hr : rightM m = true
  · have HE : Hid (encM m = (bytesM m, 0)) := by show _ = _; unfold encM; rw [if_pos hr]
    have HSL : Hid (sealT m.kind (bodyM m) = (bytesM m, 0)) := seal_M hm hr
    have HRI : Hid (inM m) := right_in hm hr
    have HCU : Hid (can m.cube.1 m.cube.2 = m.cube.1) := by
      have := ((right_iff m).1 hr).2.2.1
      unfold cubR at this
      exact (beq_iff_eq.1 this).symm
    have CF : Hid (∀ W, Calls Try.prog 20 #[.int .i64 m.kind] W fun e w' => e = .returned (.string (strB m.kind)) ∧ w' = W) := fun W => r16fields_any m.kind W
    have HIX : Hid (∀ (i j : Nat), (fldK m.kind)[i]? = some j → ∀ W, (Instr.index 9 (.string (strB m.kind)) (.int .i64 (i : Int))).run Try.prog W = .ok (.int .u8 ((letN j : Nat) : Int)) W) := fun i j h W => ix16 h W
    obtain ⟨s, hs⟩ : ∃ s, s = strB m.kind := ⟨_, rfl⟩
    obtain ⟨n, hn⟩ : ∃ n, n = (fldK m.kind).length := ⟨_, rfl⟩
    have HN : Hid (n = (fldK m.kind).length) := hn
    have hsz : s.size = n := by rw [hs, hn, strB_size]
    have hn8 : n ≤ 8 := by rw [hn]; exact fld_len m.kind
    rw [← hs] at CF HIX
    rw [hr] at CR
    clear hs hn hr
    go_enter Try.func12, Try.ntmps12
    go_wp2_with (first
      | ((with_reducible refine wl_gl16 27 _ rfl ?_); refine wl_loadA MsOk rfl _ rfl w.heap.size 0 rfl _ _ _ (msA m) hms g10 (own_cells _ _) ?_))
    rw [← hw1]
    clear hw1 g10
    refine (CR.out _).mono ?_
    rintro e w2 ⟨rfl, hb2⟩
    have g2 : w2.heap[w.heap.size]? = some (.cells (msA m) 27 (0, 0)) := (hb2.block _ hs1).trans g1
    have B2 : Below w.heap.size w w2 := B1.trans (hb2.mono B1.size)
    have hs2 := (Array.getElem?_eq_some_iff.1 g2).1
    have c2 : w2.cell? ⟨w.heap.size, 0, none⟩ = some (.int .i64 m.kind) := by rw [cell_of_row _ _ _ _ _ _ g2, ms_kind]
    clear hb2 g1 B1 hs1
    go_wp2_with (first
      | (go_at_call 20; refine (CF.out _).mono ?_; rintro e w3 ⟨rfl, hw3⟩; obtain rfl := hw3.symm))
    have HO0 : Hid (BOwn (w.heap.size + 1) (w2.alloc (.cells #[] 5)) (.slice (some ⟨w2.heap.size, 0, none⟩) 0 0) []) := (own_none w2).base hs2
    have HG0 : Hid ((w2.alloc (.cells #[] 5)).heap[w.heap.size]? = some (.cells (msA m) 27 (0, 0))) := heap_past _ _ _ _ g2
    have HB0 : Hid (Below w.heap.size w (w2.alloc (.cells #[] 5))) := B2.alloc B2.size _
    clear c2
    go_loopw [5, 6] (fun b i W => ∃ p : Nat, p ≤ n ∧ i = .int .i64 (p : Int) ∧ BOwn (w.heap.size + 1) W b (((fldK m.kind).take p).flatMap (fieldB m)) ∧ W.heap[w.heap.size]? = some (.cells (msA m) 27 (0, 0)) ∧ Below w.heap.size w W) (fun _ i _ => n - (intOf i).toNat)
    case atStart => exact ⟨0, Nat.zero_le _, rfl, HO0.out, HG0.out, HB0.out⟩
    case round =>
      clear HO0 HG0 HB0 g2 B2 hs2
      obtain ⟨p, hp, rfl, hO, gk, hB⟩ := hrel
      obtain ⟨ob, nb, cb, rfl⟩ := val_slice hO.sl
      have HO : Hid (BOwn (w.heap.size + 1) wr (.slice ob nb cb) (((fldK m.kind).take p).flatMap (fieldB m))) := hO
      have HB : Hid (Below w.heap.size w wr) := hB
      have hs3 := (Array.getElem?_eq_some_iff.1 gk).1
      have HLN : Hid ((((fldK m.kind).take p).flatMap (fieldB m)).length ≤ 208) := flat_bound hm p
      clear hO hB
      by_cases hlt : p < n
      · obtain ⟨j, hj⟩ : ∃ j, (fldK m.kind)[p]? = some j := ⟨_, List.getElem?_eq_getElem (by rw [← HN.out]; exact hlt)⟩
        have hix := HIX.out p j hj
        have hj15 := fldK_lt m.kind j (List.mem_of_getElem? hj)
        have h13 : (((letN j : Nat) : Int) == 67) = decide (j = 13) := letN_beq (j := 13) hj15 (by decide)
        have h14 : (((letN j : Nat) : Int) == 72) = decide (j = 14) := letN_beq (j := 14) hj15 (by decide)
        have HS : Hid (((fldK m.kind).take (p + 1)).flatMap (fieldB m) = ((fldK m.kind).take p).flatMap (fieldB m) ++ fieldB m j) := flat_snoc hj
        obtain ⟨L, hL⟩ : ∃ L, L = ((fldK m.kind).take p).flatMap (fieldB m) := ⟨_, rfl⟩
        rw [← hL] at HO HLN HS
        clear hL hj
        by_cases e13 : j = 13
        · rw [decide_eq_true e13] at h13
          have HS2 : Hid (((fldK m.kind).take (p + 1)).flatMap (fieldB m) = L ++ cubeB m.cube.1 m.cube.2) := by show _ = _; rw [HS.out, e13]; rfl
          have CC : Hid (∀ W, BSl W (.slice ob nb cb) L → Calls Try.prog 26 #[.slice ob nb cb, .agg (cv m.cube.1 m.cube.2)] W fun e w' => ∃ u, e = .returned u ∧ BOwn W.heap.size w' u (L ++ cubeB m.cube.1 m.cube.2) ∧ Below W.heap.size W w') := fun W hW => by
            have := rputCube_any (.slice ob nb cb) L m.cube.1 m.cube.2 hm.2.1 hm.2.2.1 W hW (by have := HLN.out; omega)
            rw [HCU.out] at this
            exact this
          clear e13 h14
          go_wp2_with (first
            | ((with_reducible refine wl_gl16 25 _ rfl ?_); refine wl_loadA CuGOk rfl _ rfl w.heap.size 14 rfl _ _ _ (cv m.cube.1 m.cube.2) (cv_size _ _ hm.2.1.1 hm.2.2.1.1) gk (ms_cube hm) ?_))
          refine (CC.out _ HO.out.sl).mono ?_
          rintro e w5 ⟨u, rfl, hO5, hb5⟩
          have HO5 : Hid (BOwn (w.heap.size + 1) w5 u (((fldK m.kind).take (p + 1)).flatMap (fieldB m))) := by show BOwn _ _ _ _; rw [HS2.out]; exact hO5.base hs3
          have HG5 : Hid (w5.heap[w.heap.size]? = some (.cells (msA m) 27 (0, 0))) := (hb5.block _ hs3).trans gk
          have HB5 : Hid (Below w.heap.size w w5) := HB.out.trans (hb5.mono HB.out.size)
          clear hO5 hb5
          go_wp2_with fail
          go_roundw
          case rel => exact ⟨p + 1, by omega, by go_num, HO5.out, HG5.out, HB5.out⟩
          case measure => simp [intOf]; omega
        · rw [decide_eq_false e13] at h13
          by_cases e14 : j = 14
          · rw [decide_eq_true e14] at h14
            have HS2 : Hid (((fldK m.kind).take (p + 1)).flatMap (fieldB m) = L ++ toB m.head) := by show _ = _; rw [HS.out, e14]; rfl
            have HD : Hid (Byt m.head) := hm.2.2.2
            obtain ⟨wo, hwo⟩ : ∃ wo : World, wo = wr := ⟨_, rfl⟩
            rw [← hwo] at HO HB gk hs3 ⊢
            clear hwo e13 e14
            go_wp2_with fail
            go_loopw [5, 7] (fun b i W => ∃ q : Nat, q ≤ 13 ∧ i = .int .i64 (q : Int) ∧ BOwn (w.heap.size + 1) W b (L ++ (toB m.head).take q) ∧ W.heap[w.heap.size]? = some (.cells (msA m) 27 (0, 0)) ∧ Below w.heap.size w W) (fun _ i _ => 13 - (intOf i).toNat)
            case atStart => exact ⟨0, by omega, rfl, by simpa using HO.out, gk, HB.out⟩
            case round =>
              clear HO HB gk hs3
              obtain ⟨q, hq, rfl, hO, gk, hB⟩ := hrel
              obtain ⟨od, nd, cd, rfl⟩ := val_slice hO.sl
              have HO : Hid (BOwn (w.heap.size + 1) wr (.slice od nd cd) (L ++ (toB m.head).take q)) := hO
              have HB : Hid (Below w.heap.size w wr) := hB
              have hs3 := (Array.getElem?_eq_some_iff.1 gk).1
              clear hO hB
              by_cases hlq : q < 13
              · have cc : wr.cell? ⟨w.heap.size, 40 + q, none⟩ = some (.int .u8 (m.head.getD q 0)) := by
                  rw [cell_of_row wr _ _ _ _ _ gk, ms_head hm q hlq, hv_at _ HD.out.1 q hlq]
                have e := (byt_at HD.out q hlq).2
                obtain ⟨x, hx⟩ : ∃ x, x = (toB m.head).getD q 0 := ⟨_, rfl⟩
                have HX : Hid ((toB m.head)[q]? = some x) := by rw [hx]; exact toB_at HD.out q hlq
                rw [← hx] at e
                rw [← e] at cc
                clear e hx
                have HL2 : Hid ((L ++ (toB m.head).take q).length ≤ 300) := by show _ ≤ _; have := HLN.out; rw [List.length_append, List.length_take]; omega
                go_wp2_with (first
                  | (at_builtin; refine of_stopW ?_))
                unfold StopW
                have HS1 : Hid (BSl (wr.alloc (.cells #[.int .u8 (x.toNat : Int)] 5)) (.slice (some ⟨wr.heap.size, 0, none⟩) 1 1) [x]) := (own_one wr x).sl
                have HO2 : Hid (BOwn (w.heap.size + 1) (wr.alloc (.cells #[.int .u8 (x.toNat : Int)] 5)) (.slice od nd cd) (L ++ (toB m.head).take q)) := HO.out.below ((Below.refl _ _).alloc (Nat.le_refl _) _)
                have HB2 : Hid (Below w.heap.size w (wr.alloc (.cells #[.int .u8 (x.toNat : Int)] 5))) := HB.out.alloc HB.out.size _
                refine wl_appW rfl _ _ rfl (w.heap.size + 1) (.slice od nd cd) _ _ [x] rfl HO2.out rfl HS1.out (by have := HL2.out; simp only [List.length_cons, List.length_nil]; omega) (by simp; omega) ?_
                intro v' w' ho hgr _
                have HO3 : Hid (BOwn (w.heap.size + 1) w' v' (L ++ (toB m.head).take (q + 1))) := by show BOwn _ _ _ _; rw [take_more L (toB m.head) q x HX.out]; exact ho
                have HB3 : Hid (Below w.heap.size w w') := HB2.out.grown hgr HB2.out.size fun y hy => by have := (HO2.out.ge y hy).1; omega
                have g4 : w'.heap[w.heap.size]? = some (.cells (msA m) 27 (0, 0)) := by
                  rw [hgr.block _ (by simp; omega) (fun e => by have := (HO2.out.ge _ e.symm).1; omega)]
                  exact heap_past _ _ _ _ gk
                simp only [Act.put, List.setIfInBounds_toArray, List.set_cons_succ, List.set_cons_zero]
                clear ho hgr HO2 HB2 HS1 cc gk
                go_wp2_with fail
                go_roundw
                case rel => exact ⟨q + 1, by omega, by go_num, HO3.out, g4, HB3.out⟩
                case measure => simp [intOf]; omega
              · obtain rfl : q = 13 := by omega
                have HO5 : Hid (BOwn (w.heap.size + 1) wr (.slice od nd cd) (((fldK m.kind).take (p + 1)).flatMap (fieldB m))) := by
                  have := HO.out
                  rw [List.take_of_length_le (by rw [toB_len, HD.out.1]; exact Nat.le_refl _)] at this
                  show BOwn _ _ _ _
                  rw [HS2.out]
                  exact this
                go_wp2_with fail
                go_roundw
                case rel => exact ⟨p + 1, by omega, by go_num, HO5.out, gk, HB.out⟩
                case measure => simp [intOf]; omega
          · rw [decide_eq_false e14] at h14
            have hj13 : j < 13 := by omega
            have hx := HRI.out.2 j hj13
            obtain ⟨x, hxx⟩ : ∃ x : Nat, numM m j = x := ⟨(numM m j).toNat, by omega⟩
            have hx2 : x < 281474976710656 := by omega
            have HS2 : Hid (((fldK m.kind).take (p + 1)).flatMap (fieldB m) = L ++ beB 6 x) := by
              show _ = _
              rw [HS.out]
              unfold fieldB
              rw [if_neg e13, if_neg e14, hxx]
              rfl
            obtain ⟨q, hq⟩ : ∃ q : Int, q = ((letN j : Nat) : Int) := ⟨_, rfl⟩
            have CG : Hid (∀ W, Calls Try.prog 21 #[.agg (msA m), .int .u8 q] W fun e w' => e = .returned (.int .i64 (x : Int)) ∧ Below W.heap.size W w') := fun W => by rw [hq, ← hxx]; exact r16get_any m hm j hj13 W
            have CP : Hid (∀ W, BSl W (.slice ob nb cb) L → Calls Try.prog 27 #[.slice ob nb cb, .int .u64 (x : Int), .int .i64 6] W fun e w' => ∃ u, e = .returned (.tuple #[u, .int .i64 0]) ∧ BOwn W.heap.size w' u (L ++ beB 6 x) ∧ Below W.heap.size W w') := fun W hW => by
              have hq : putT L x 6 = (L ++ beB 6 x, 0) := by
                unfold putT
                rw [if_pos (by decide), if_pos (by show x < 256 ^ 6; omega)]
                rfl
              have := rput_any (.slice ob nb cb) L x 6 W hW (by have := HLN.out; omega) (by omega)
              rw [hq] at this
              exact this
            rw [← hq] at hix h13 h14
            clear hq hxx hx e13 e14 HS
            go_wp2_with fail
            have ne1 := Later.ne wr
            refine region_cut (fun a a' w' => ∃ u y44 y45 y46 y47 y48 y49 y50 y51 y52 y53 y54, a' = ((((((((((((a.put (some 45) y45).put (some 46) y46).put (some 47) y47).put (some 48) y48).put (some 49) y49).put (some 50) y50).put (some 51) y51).put (some 52) y52).put (some 44) y44).put (some 53) y53).put (some 54) y54).put (some 5) u) ∧ BOwn (w.heap.size + 1) w' u (L ++ beB 6 x) ∧ Below wr.heap.size wr w') ?_ ?_
            · refine region_begin 12 rfl (by kernel_rfl) ?_
              refine region_reads 0 4 8 rfl (by kernel_rfl) (by kernel_rfl) (by kernel_rfl) (by intro d v c a w h; exact absurd h.1 (by simp)) ⟨⟨wr.drew, (Below.refl _ _).drew⟩, rfl⟩ ?_
              simp only [List.drop_zero, List.take_succ_cons, List.take_zero]
              go_big_quiet_step (fail)
              refine qlA MsOk rfl _ rfl w.heap.size 0 rfl _ _ _ (msA m) hms (later_block gk) (own_cells _ _) ?_
              simp only [Act.put, List.setIfInBounds_toArray, List.set_cons_succ, List.set_cons_zero]
              go_big_quiet_step (fail)
              go_big_quiet_step (fail)
              refine wpQuiet_nil ?_
              refine wpAnyH_takeD (i := 4) (v := .int .u8 q) (some 49) rfl rfl (by kernel_rfl) (by kernel_rfl) (by kernel_rfl) (fun c a w h => absurd h.1 (by simp)) (.inl ⟨rfl, fun w _ => by simp [execOp, Act.eval, hix]⟩) ⟨⟨wr.drew, (Below.refl _ _).drew⟩, rfl⟩ ?_
              simp only [Act.put, List.setIfInBounds_toArray, List.set_cons_succ, List.set_cons_zero]
              refine wpAnyH_all (rs := [5]) (by kernel_rfl) (by decide) ?_
              intro i hi
              obtain rfl := List.mem_singleton.1 hi
              refine wpOp_call rfl rfl 21 #[.tmp 46, .tmp 49] (by intro b w; have hf := Try.func21; simp [go_sem]) #[.agg (msA m), .int .u8 q] rfl (fun v w' => v = .int .i64 (x : Int) ∧ Below wr.heap.size wr w') ((CG.out _).mono fun e w' ⟨h1, h3⟩ => ⟨_, h1, rfl, ((Below.refl _ _).drew).trans h3⟩) (some 50) rfl ?_
              rintro z w4 ⟨rfl, hb4⟩
              refine ⟨⟨⟨w4, hb4⟩, rfl⟩, ?_⟩
              simp only [Act.put, List.setIfInBounds_toArray, List.set_cons_succ, List.set_cons_zero]
              refine wpAnyH_takeD (i := 6) (v := .int .u64 (x : Int)) (some 51) rfl rfl (by kernel_rfl) (by kernel_rfl) (by kernel_rfl) (fun c a w h => absurd h.1 (by simp)) (.inl ⟨rfl, fun w _ => by simp [execOp, Act.eval, conv16 x (by omega)]⟩) ⟨⟨w4, hb4⟩, rfl⟩ ?_
              simp only [Act.put, List.setIfInBounds_toArray, List.set_cons_succ, List.set_cons_zero]
              refine wpAnyH_all (rs := [7]) (by kernel_rfl) (by decide) ?_
              intro i hi
              obtain rfl := List.mem_singleton.1 hi
              refine wpOp_call rfl rfl 27 #[.tmp 45, .tmp 51, .const (.int .i64 6)] (by intro b w; have hf := Try.func27; simp [go_sem]) #[.slice ob nb cb, .int .u64 (x : Int), .int .i64 6] rfl (fun v w' => ∃ u, v = .tuple #[u, .int .i64 0] ∧ BOwn (w.heap.size + 1) w' u (L ++ beB 6 x) ∧ Below wr.heap.size wr w') ((CP.out w4 (HO.out.sl.below hb4)).mono fun e w' ⟨v, h1, h2, h3⟩ => ⟨_, h1, v, rfl, h2.base (Nat.le_trans hs3 hb4.size), hb4.trans (h3.mono hb4.size)⟩) (some 52) rfl ?_
              rintro z5 w5 ⟨u5, rfl, ho5, hb5⟩
              refine ⟨⟨⟨w5, hb5⟩, rfl⟩, ?_⟩
              simp only [Act.put, List.setIfInBounds_toArray, List.set_cons_succ, List.set_cons_zero]
              refine region_reads 8 4 0 rfl (by kernel_rfl) (by kernel_rfl) (by kernel_rfl) (by intro d v c a w h; exact absurd h.1 (by simp)) ⟨⟨w5, hb5⟩, rfl⟩ ?_
              simp only [List.drop_succ_cons, List.drop_zero, List.take_succ_cons, List.take_zero]
              go_big_quiet_step (fail)
              go_big_quiet_step (fail)
              go_big_quiet_step (fail)
              go_big_quiet_step (fail)
              refine wpQuiet_nil ?_
              refine wpAnyH_done (by kernel_rfl) ?_ _
              exact ⟨rfl, _, _, _, _, _, _, _, _, _, _, _, _, rfl, ho5, hb5⟩
            rintro a' w5 ⟨u5, y44, y45, y46, y47, y48, y49, y50, y51, y52, y53, y54, rfl, ho5, hb5⟩
            have HO5 : Hid (BOwn (w.heap.size + 1) w5 u5 (((fldK m.kind).take (p + 1)).flatMap (fieldB m))) := by show BOwn _ _ _ _; rw [HS2.out]; exact ho5
            have HG5 : Hid (w5.heap[w.heap.size]? = some (.cells (msA m) 27 (0, 0))) := (hb5.block _ hs3).trans gk
            have HB5 : Hid (Below w.heap.size w w5) := HB.out.trans (hb5.mono HB.out.size)
            clear ho5 hb5
            simp only [Act.put, List.setIfInBounds_toArray, List.set_cons_succ, List.set_cons_zero]
            go_wp2_with fail
            go_roundw
            case rel => exact ⟨p + 1, by omega, by go_num, HO5.out, HG5.out, HB5.out⟩
            case measure => simp [intOf]; omega
      · obtain rfl : p = n := by omega
        have HOb : Hid (BOwn (w.heap.size + 1) wr (.slice ob nb cb) (bodyM m)) := by
          have := HO.out
          rw [HN.out, List.take_length] at this
          exact this
        have c3 : wr.cell? ⟨w.heap.size, 0, none⟩ = some (.int .i64 m.kind) := by rw [cell_of_row _ _ _ _ _ _ gk, ms_kind]
        have CS : Hid (∀ W, BSl W (.slice ob nb cb) (bodyM m) → Calls Try.prog 28 #[.int .i64 m.kind, .slice ob nb cb] W fun e w' => ∃ u, e = .returned (.tuple #[u, .int .i64 0]) ∧ BOwn W.heap.size w' u (bytesM m) ∧ Below W.heap.size W w') := fun W hW => by
          have := rseal_any m.kind (.slice ob nb cb) (bodyM m) W hW
          rw [HSL.out] at this
          exact this
        clear HO HLN
        go_wp2_with fail
        refine (CS.out _ HOb.out.sl).mono ?_
        rintro e w5 ⟨u, rfl, hO5, hb5⟩
        have HO5 : Hid (BOwn w.heap.size w5 u (bytesM m)) := hO5.base HB.out.size
        have HB5 : Hid (Below w.heap.size w w5) := HB.out.trans (hb5.mono HB.out.size)
        clear hO5 hb5
        go_wp2_with fail
        go_ret2
        rw [HE.out]
        exact ⟨_, rfl, HO5.out, HB5.out⟩
  · have hr' : rightM m = false := by simpa using hr
    have HE : Hid (encM m = ([], 12)) := by show _ = _; unfold encM; rw [if_neg hr]
    rw [hr'] at CR
    go_enter Try.func12, Try.ntmps12
    go_wp2_with (first
      | ((with_reducible refine wl_gl16 27 _ rfl ?_); refine wl_loadA MsOk rfl _ rfl w.heap.size 0 rfl _ _ _ (msA m) hms g10 (own_cells _ _) ?_))
    rw [← hw1]
    clear hw1 g10
    refine (CR.out _).mono ?_
    rintro e w2 ⟨rfl, hb2⟩
    have HB2 : Hid (Below w.heap.size w w2) := B1.trans (hb2.mono B1.size)
    clear hb2
    go_wp2_with fail
    go_ret2
    rw [HE.out]
    exact ⟨_, rfl, BOwn.nil _ _, HB2.out⟩
end Go.Proofs.Ytjmbdoiibchokaa
namespace Go.Proofs.Ytjmbdoiibchokaa
open Go Go.Lib Go.RowKit
set_option maxRecDepth 20000

theorem bytes_len {m : MsgM} (h : okM m) : (bytesM m).length ≤ 1000 := by
  have hbl : (bodyM m).length = sizeK m.kind := body_len h _
  have hsz := size_le m.kind
  unfold bytesM sealB
  simp only [List.length_append, List.length_cons]
  have := beB_len 2 (bodyM m).length
  omega
set_option maxHeartbeats 8000000 in
theorem lawMBack_any (m : MsgM) (hm : okM m) (w : World) : Calls Try.prog 4 #[.agg (msA m)] w fun e w' => e = .returned (.bool true) ∧ Below w.heap.size w w' := by
  have AW : Hid (∀ W, Calls Try.prog 8 #[] W fun e w' => e = .returned (.bool true) ∧ Below W.heap.size W w') := fun W => awake16_any W
  have R1 : Hid (∀ W, Calls Try.prog 9 #[.agg (msA m)] W fun e w' => e = .returned (.bool (rightM m)) ∧ Below W.heap.size W w') := fun W => mright_any m hm W
  obtain ⟨L, hL⟩ : ∃ L, L = (encM m).1 := ⟨_, rfl⟩
  obtain ⟨ec, hec⟩ : ∃ ec, ec = (encM m).2 := ⟨_, rfl⟩
  have E1 : Hid (∀ W, Calls Try.prog 11 #[.agg (msA m)] W fun e w' => ∃ u, e = .returned (.tuple #[u, .int .i64 ec]) ∧ BOwn W.heap.size w' u L ∧ Below W.heap.size W w') := fun W => by rw [hL, hec]; exact menc_any m hm W
  have E2 : Hid (∀ W, Calls Try.prog 12 #[.agg (msA m)] W fun e w' => ∃ u, e = .returned (.tuple #[u, .int .i64 ec]) ∧ BOwn W.heap.size w' u L ∧ Below W.heap.size W w') := fun W => by rw [hL, hec]; exact r16enc_any m hm W
  have HCS : Hid ((ec = 0 ∧ L.length ≤ 1000 ∧ decM L = (m, 0)) ∨ (ec = 12 ∧ L = [] ∧ rightM m = false)) := by
    by_cases hr : rightM m = true
    · have he : encM m = (bytesM m, 0) := by unfold encM; rw [if_pos hr]
      rw [he] at hL hec
      refine .inl ⟨hec, by rw [hL]; exact bytes_len hm, decM_some (by rw [hL]; exact dec_enc hm hr)⟩
    · have he : encM m = ([], 12) := by unfold encM; rw [if_neg hr]
      rw [he] at hL hec
      exact .inr ⟨hec, hL, by simpa using hr⟩
  clear hL hec
  have hms := msA_size hm
  have g0 : (w.alloc (.cells (msA m) 27)).heap[w.heap.size]? = some (.cells (msA m) 27 (0, 0)) := heap_new _ _ _ rfl
  have B0 : Below w.heap.size w (w.alloc (.cells (msA m) 27)) := (Below.refl _ _).alloc (Nat.le_refl _) _
  go_enter Try.func4, Try.ntmps4
  go_wp2_with fail
  refine (AW.out _).mono ?_
  rintro e w1 ⟨rfl, hb1⟩
  have g1 : w1.heap[w.heap.size]? = some (.cells (msA m) 27 (0, 0)) := (hb1.block _ (Array.getElem?_eq_some_iff.1 g0).1).trans g0
  have B1 : Below w.heap.size w w1 := B0.trans (hb1.mono B0.size)
  clear hb1 g0 B0
  go_wp2_with (first
    | ((with_reducible refine wl_gl16 27 _ rfl ?_); refine wl_loadA MsOk rfl _ rfl w.heap.size 0 rfl _ _ _ (msA m) hms g1 (own_cells _ _) ?_))
  refine (E1.out _).mono ?_
  rintro e w2 ⟨u, rfl, hO2, hb2⟩
  have g2 : w2.heap[w.heap.size]? = some (.cells (msA m) 27 (0, 0)) := (hb2.block _ (Array.getElem?_eq_some_iff.1 g1).1).trans g1
  have B2 : Below w.heap.size w w2 := B1.trans (hb2.mono B1.size)
  have HU2 : Hid (BSl w2 u L) := hO2.sl
  obtain ⟨ou, cu, hu, hc1, hc2⟩ := hO2.sl.slice
  subst hu
  clear hO2 hb2 g1 B1
  go_wp2_with (first
    | ((with_reducible refine wl_gl16 27 _ rfl ?_); refine wl_loadA MsOk rfl _ rfl w.heap.size 0 rfl _ _ _ (msA m) hms g2 (own_cells _ _) ?_))
  refine (E2.out _).mono ?_
  rintro e w3 ⟨x, rfl, hO3, hb3⟩
  have g3 : w3.heap[w.heap.size]? = some (.cells (msA m) 27 (0, 0)) := (hb3.block _ (Array.getElem?_eq_some_iff.1 g2).1).trans g2
  have B3 : Below w.heap.size w w3 := B2.trans (hb3.mono B2.size)
  have HU3 : Hid (BSl w3 (.slice ou L.length cu) L) := HU2.out.below hb3
  have HX3 : Hid (BSl w3 x L) := hO3.sl
  obtain ⟨ox, nx, cx, rfl⟩ := val_slice hO3.sl
  clear hO3 hb3 g2 B2
  have CS : Hid (∀ W, W = w3 → Calls Try.prog 13 #[.slice ou L.length cu, .slice ox nx cx] W fun e w' => e = .returned (.bool true) ∧ w' = W) := fun W hW => by
    subst hW
    have := rsameB_any _ _ L L W HU3.out HX3.out
    rw [beq_self_eq_true] at this
    exact this
  obtain ⟨nl, hnl⟩ : ∃ nl, nl = L.length := ⟨_, rfl⟩
  have HNL : Hid (nl = L.length) := hnl
  rw [← hnl] at CS HU3 hc1 ⊢
  clear hnl
  rcases HCS.out with ⟨he, hl, hd⟩ | ⟨he, hl, hr⟩
  · subst he
    have HD : Hid (∀ W, BSl W (.slice ou nl cu) L → Calls Try.prog 14 #[.slice ou nl cu] W fun e w' => e = .returned (.tuple #[.agg (msA m), .int .i64 0]) ∧ Below W.heap.size W w') := fun W hW => by
      have := mdec_any (.slice ou nl cu) L W hW (by omega)
      unfold DecR at this
      rw [hd] at this
      exact this
    clear hl hd HCS
    go_wp2_with (first
      | (go_at_call 13; refine (CS.out _ rfl).mono ?_; rintro e w4 ⟨rfl, hw4⟩; obtain rfl := hw4.symm))
    refine (HD.out _ HU3.out).mono ?_
    rintro e w5 ⟨rfl, hb5⟩
    have g5 : w5.heap[w.heap.size]? = some (.cells (msA m) 27 (0, 0)) := (hb5.block _ (Array.getElem?_eq_some_iff.1 g3).1).trans g3
    have B5 : Below w.heap.size w w5 := B3.trans (hb5.mono B3.size)
    have hs5 := (Array.getElem?_eq_some_iff.1 g5).1
    clear hb5 g3 B3
    have n0 := heap_new w5 (.cells zeroMs 27) _ rfl
    have n1 := setRow_heap _ _ _ (msA m) _ _ n0
    have g6 : ((w5.alloc (.cells zeroMs 27)).setRow w5.heap.size (msA m)).heap[w.heap.size]? = some (.cells (msA m) 27 (0, 0)) := (setRow_other _ _ _ _ (by omega)).trans (heap_past _ _ _ _ g5)
    have HB6 : Hid (Below w.heap.size w ((w5.alloc (.cells zeroMs 27)).setRow w5.heap.size (msA m))) := below_setRow (B5.alloc B5.size _) B5.size _
    have eM : ∀ W, (Op.equalIn 10000 27 (.agg (msA m)) (.agg (msA m))).run Try.prog W = .ok true W := fun W => by
      rw [eqM16 hm hm W, (eqB16_iff hm hm).2 rfl]
    have eg : ∀ op x y (xs ys : Array Value) w, (eqGuard op 27 x y (.agg xs) (.agg ys)).run Try.prog w = .ok () w := egM
    go_wp2_with (first
      | ((with_reducible refine wl_gs16 27 _ _ rfl ?_); refine wl_storeA MsOk rfl _ _ rfl w5.heap.size (msA m) (ms_fits hm) rfl rfl _ n0 rfl _ rfl ?_)
      | ((with_reducible refine wl_gl16 27 _ rfl ?_); refine wl_loadA MsOk rfl _ rfl w5.heap.size 0 rfl _ _ _ (msA m) hms n1 (own_cells _ _) ?_)
      | ((with_reducible refine wl_gl16 27 _ rfl ?_); refine wl_loadA MsOk rfl _ rfl w.heap.size 0 rfl _ _ _ (msA m) hms g6 (own_cells _ _) ?_))
    go_ret
    exact ⟨rfl, HB6.out⟩
  · subst he
    rw [hr] at R1
    have hn0 : nl = 0 := by rw [HNL.out, hl]; rfl
    subst hn0
    clear hr hl HCS
    go_wp2_with (first
      | (go_at_call 13; refine (CS.out _ rfl).mono ?_; rintro e w4 ⟨rfl, hw4⟩; obtain rfl := hw4.symm)
      | ((with_reducible refine wl_gl16 27 _ rfl ?_); refine wl_loadA MsOk rfl _ rfl w.heap.size 0 rfl _ _ _ (msA m) hms g3 (own_cells _ _) ?_))
    refine (R1.out _).mono ?_
    rintro e w5 ⟨rfl, hb5⟩
    have B5 : Below w.heap.size w w5 := B3.trans (hb5.mono B3.size)
    clear hb5
    go_wp2_with fail
    go_ret
    exact ⟨rfl, B5⟩
end Go.Proofs.Ytjmbdoiibchokaa
namespace Go.Proofs.Ytjmbdoiibchokaa
open Go Go.RowKit
set_option maxRecDepth 20000

/-- So many numbers as are laid already, and noughts. -/
def layI (B : List UInt8) (k : Nat) : List Int := nI (B.take k) ++ List.replicate (13 - k) 0
theorem layI_len (B : List UInt8) (k : Nat) (hB : B.length = 13) (hk : k ≤ 13) : (layI B k).length = 13 := by
  unfold layI; rw [List.length_append, nI_len, List.length_take, List.length_replicate]; omega
theorem layI_zero (B : List UInt8) : layI B 0 = Z := by rw [Z_eq]; rfl
theorem layI_all (B : List UInt8) (hB : B.length = 13) : layI B 13 = nI B := by
  unfold layI; rw [List.take_of_length_le (by omega)]; simp
theorem layI_succ (B : List UInt8) (k : Nat) (c : UInt8) (hk : k < 13) (hB : B.length = 13) (h : B[k]? = some c) : layI B (k + 1) = (layI B k).set k (c.toNat : Int) := by
  unfold layI
  have hl : (nI (B.take k)).length = k := by rw [nI_len, List.length_take]; omega
  rw [List.set_append_right _ _ (by omega), hl, Nat.sub_self, List.take_add_one, h]
  obtain ⟨m, hm⟩ : ∃ m, 13 - k = m + 1 := ⟨13 - k - 1, by omega⟩
  rw [hm, show 13 - (k + 1) = m by omega]
  simp [List.replicate_succ, nI]

set_option maxHeartbeats 8000000 in
theorem rtakeCube_any (v : Value) (L : List UInt8) (p : Int) (w : World) (hL : BSl w v L) :
    Calls Try.prog 33 #[v, .int .i64 p] w fun e w' => e = .returned (.tuple #[.agg (cv (tcT L p).1 (tcT L p).2.1), .int .i64 (tcT L p).2.2]) ∧ Below w.heap.size w w' := by
  have HL : Hid (BSl w v L) := hL
  obtain ⟨ov, cx, hv, hc1, hc2⟩ := hL.slice
  subst hv
  clear hL
  obtain ⟨n, hn⟩ : ∃ n, n = L.length := ⟨_, rfl⟩
  have HN : Hid (n = L.length) := hn
  rw [← hn] at HL hc1 ⊢
  clear hn
  have hzl := Z_byt.1
  have g0 := heap_new w (.cells zeroC 25) _ rfl
  have B0 : Below w.heap.size w (w.alloc (.cells zeroC 25)) := (Below.refl _ _).alloc (Nat.le_refl _) _
  unfold maxLen at hc2
  by_cases h0 : 0 ≤ p
  · obtain ⟨q, rfl⟩ : ∃ q : Nat, p = q := ⟨p.toNat, by omega⟩
    by_cases hr : q + 26 ≤ n
    · obtain ⟨BV, hBV⟩ : ∃ B, B = (L.drop q).take 13 := ⟨_, rfl⟩
      obtain ⟨BM, hBM⟩ : ∃ B, B = (L.drop (q + 13)).take 13 := ⟨_, rfl⟩
      have hVl : BV.length = 13 := by rw [hBV]; simp; rw [← HN.out]; omega
      have hMl : BM.length = 13 := by rw [hBM]; simp; rw [← HN.out]; omega
      have HT : Hid (tcT L q = if (nI BV == can (nI BV) (nI BM)) = true then (nI BV, nI BM, 0) else (Z, Z, 12)) := by
        show _ = _; unfold tcT; rw [if_pos h0, if_pos (by rw [← HN.out]; omega), hBV, hBM, Int.toNat_natCast]
      have HE : Hid (∀ k, k < 13 → BV[k]? = L[q + k]? ∧ BM[k]? = L[q + 13 + k]?) := fun k hk => by
        rw [hBV, hBM, List.getElem?_take_of_lt hk, List.getElem?_take_of_lt hk, List.getElem?_drop, List.getElem?_drop]
        exact ⟨rfl, rfl⟩
      have hVb := nI_byt BV hVl
      have hMb := nI_byt BM hMl
      have CQ : Hid (∀ W, Calls Try.prog 23 #[.agg (cv (nI BV) (nI BM))] W fun e w' => e = .returned (.agg (cv (can (nI BV) (nI BM)) (nI BM))) ∧ Below W.heap.size W w') := rcanon_any _ _ hVb hMb
      have hg : ¬ (n : Int) - 26 < q := by omega
      clear hBV hBM hVb hMb
      have k0 := heap_past (w.alloc (.cells zeroC 25)) (.cells zeroC 25) _ _ g0
      have k1 := heap_new (w.alloc (.cells zeroC 25)) (.cells zeroC 25) (w.heap.size + 1) (by simp)
      have B1 := B0.alloc B0.size (.cells zeroC 25)
      go_enter Try.func33, Try.ntmps33
      go_wp2_with (first
        | (refine wl_zeroC rfl rfl ?_)
        | (refine wl_storeC rfl _ _ rfl (w.heap.size + 1) Z Z rfl rfl _ k1 rfl hzl hzl _ rfl ?_))
      have j0 : ((w.alloc (.cells zeroC 25)).alloc (.cells zeroC 25)).setRow (w.heap.size + 1) (cv Z Z) |>.heap[w.heap.size]? |> (· = some (.cells zeroC 25 (0, 0))) := (setRow_other _ _ _ _ (by omega)).trans k0
      have j1 := setRow_heap _ (w.heap.size + 1) _ (cv Z Z) _ _ k1
      have B2 := below_setRow B1 (show w.heap.size ≤ w.heap.size + 1 by omega) (cv Z Z)
      go_loopw [7] (fun i W => ∃ k : Nat, k ≤ 13 ∧ i = .int .i64 k ∧ W.heap[w.heap.size]? = some (.cells zeroC 25 (0, 0)) ∧ W.heap[w.heap.size + 1]? = some (.cells (cv (layI BV k) (layI BM k)) 25 (0, 0)) ∧ Below w.heap.size w W) (fun i _ => 13 - (intOf i).toNat)
      case atStart => exact ⟨0, by omega, rfl, j0, by rw [layI_zero, layI_zero]; exact j1, B2⟩
      case round =>
        clear j0 j1 B2 k0 k1 B1 g0 B0
        obtain ⟨k, hk, rfl, k0, k1, hb⟩ := hrel
        have lV := layI_len BV k hVl hk
        have lM := layI_len BM k hMl hk
        by_cases hlt : k < 13
        · obtain ⟨g, off, c1, rfl, hc1, hL1⟩ := (HL.out.below hb).at (q + k) (by omega)
          have hb2 : Below w.heap.size w (wr.setCell ⟨w.heap.size + 1, k, none⟩ (.int .u8 (c1.toNat : Int))) := hb.setCell (by simp) _
          obtain ⟨g', off', c2, e, hc3, hL2⟩ := (HL.out.below hb2).at (q + 13 + k) (by omega)
          simp only [Option.some.injEq, Addr.mk.injEq, and_true] at e
          obtain ⟨rfl, rfl⟩ := e
          have HV : Hid (layI BV (k + 1) = (layI BV k).set k (c1.toNat : Int)) := layI_succ BV k c1 hlt hVl ((HE.out k hlt).1.trans hL1)
          have HM : Hid (layI BM (k + 1) = (layI BM k).set k (c2.toNat : Int)) := layI_succ BM k c2 hlt hMl ((HE.out k hlt).2.trans hL2)
          have cV : wr.cell? ⟨w.heap.size + 1, k, none⟩ = some (.int .u8 ((layI BV k).getD k 0)) := by rw [cell_of_row wr _ _ _ _ _ k1]; exact cv_val _ _ lV k hlt
          have fV : wr.frozen? ⟨w.heap.size + 1, k, none⟩ = false := frozen_of_row wr _ _ _ _ k1
          have k2 : (wr.setCell ⟨w.heap.size + 1, k, none⟩ (.int .u8 (c1.toNat : Int))).heap[w.heap.size + 1]? = some (.cells (cv ((layI BV k).set k (c1.toNat : Int)) (layI BM k)) 25 (0, 0)) := by
            rw [← cv_set_val _ _ lV k hlt]; exact heap_setCell_same wr _ _ _ _ _ k1
          have z2 : (wr.setCell ⟨w.heap.size + 1, k, none⟩ (.int .u8 (c1.toNat : Int))).heap[w.heap.size]? = some (.cells zeroC 25 (0, 0)) := (heap_setCell_other wr ⟨w.heap.size + 1, k, none⟩ w.heap.size _ (by simp)).trans k0
          have lV2 : ((layI BV k).set k (c1.toNat : Int)).length = 13 := by rw [List.length_set]; exact lV
          have cM : wr.cell? ⟨w.heap.size + 1, 13 + k, none⟩ = some (.int .u8 ((layI BM k).getD k 0)) := by rw [cell_of_row wr _ _ _ _ _ k1]; exact cv_mask _ _ lV lM k hlt
          have fM : wr.frozen? ⟨w.heap.size + 1, 13 + k, none⟩ = false := frozen_of_row wr _ _ _ _ k1
          have cM2 : (wr.setCell ⟨w.heap.size + 1, k, none⟩ (.int .u8 (c1.toNat : Int))).cell? ⟨w.heap.size + 1, 13 + k, none⟩ = some (.int .u8 ((layI BM k).getD k 0)) := by rw [cell_of_row _ _ _ _ _ _ k2]; exact cv_mask _ _ lV2 lM k hlt
          have fM2 : (wr.setCell ⟨w.heap.size + 1, k, none⟩ (.int .u8 (c1.toNat : Int))).frozen? ⟨w.heap.size + 1, 13 + k, none⟩ = false := frozen_of_row _ _ _ _ _ k2
          go_wp2_with fail
          refine ⟨⟨k + 1, by omega, by go_num, ?_, ?_, ?_⟩, by simp [intOf]; omega⟩
          · exact (heap_setCell_other _ ⟨w.heap.size + 1, 13 + k, none⟩ w.heap.size _ (by simp)).trans z2
          · rw [HV.out, HM.out, ← cv_set_mask _ _ lV2 k]
            exact heap_setCell_same _ _ _ _ _ _ k2
          · exact hb2.setCell (by simp) _
        · obtain rfl : k = 13 := by omega
          rw [layI_all BV hVl, layI_all BM hMl] at k1
          have lV1 : (nI BV).length = 13 := by rw [nI_len, hVl]
          have lM1 : (nI BM).length = 13 := by rw [nI_len, hMl]
          obtain ⟨V, hV⟩ : ∃ V, V = nI BV := ⟨_, rfl⟩
          obtain ⟨M, hM⟩ : ∃ M, M = nI BM := ⟨_, rfl⟩
          rw [← hV] at k1 CQ HT lV1
          rw [← hM] at k1 CQ HT lM1
          clear hV hM lV lM HE HL
          have hCl := (can_byt V M).1
          have eC : ∀ w, (Op.equalIn 10000 25 (.agg (cv (can V M) M)) (.agg (cv V M))).run Try.prog w = .ok (V == can V M) w := fun w => by
            rw [eqC (can V M) M V M hCl lM1 lV1 lM1]
            congr 1
            rw [beq_self_eq_true, Bool.and_true, Bool.eq_iff_iff, beq_iff_eq, beq_iff_eq]
            exact ⟨fun h => h.symm, fun h => h.symm⟩
          have eg : ∀ op x y (xs ys : Array Value) w, (eqGuard op 25 x y (.agg xs) (.agg ys)).run Try.prog w = .ok () w := egC
          go_wp2_with fail
          have ne1 := Later.ne wr
          have hsz := (Array.getElem?_eq_some_iff.1 k1).1
          refine wp_region_later (by kernel_rfl) (by kernel_rfl) ?_
          refine qlC rfl _ rfl (w.heap.size + 1) rfl V M k1 lV1 lM1 ?_
          simp only [Act.put, List.setIfInBounds_toArray, List.set_cons_succ, List.set_cons_zero]
          go_big_quiet_want; go_big_quiet_op
          refine ⟨_, fun u => Calls.later_of (CQ.out u.world), ?_⟩
          go_big_quiet_on
          refine qlC rfl _ rfl (w.heap.size + 1) rfl V M k1 lV1 lM1 ?_
          simp only [Act.put, List.setIfInBounds_toArray, List.set_cons_succ, List.set_cons_zero]
          repeat go_big_quiet_step (fail)
          refine wpQuiet_nil ?_
          rintro w4 ⟨u, hu⟩
          have m0 : w4.heap[w.heap.size]? = some (.cells zeroC 25 (0, 0)) := by rw [hu, u.below.block _ (by omega)]; exact k0
          have m1 : w4.heap[w.heap.size + 1]? = some (.cells (cv V M) 25 (0, 0)) := by rw [hu, u.below.block _ hsz]; exact k1
          have B4 : Below w.heap.size w w4 := by rw [hu]; exact hb.trans (u.below.mono hb.size)
          clear hu u k0 k1 hb eC eg
          by_cases hq : (V == can V M) = true
          · rw [if_pos hq] at HT
            obtain ⟨b, hb⟩ : ∃ b, b = (V == can V M) := ⟨_, rfl⟩
            rw [← hb] at hq ⊢
            subst hq
            clear hb
            go_wp2_with (first
              | (refine wl_loadC rfl _ rfl (w.heap.size + 1) rfl V M m1 lV1 lM1 ?_)
              | (refine wl_storeC rfl _ _ rfl w.heap.size V M rfl rfl _ m0 rfl lV1 lM1 _ rfl ?_))
            refine retCe (p := 4) (u := 5) rfl rfl w.heap.size rfl V M lV1 lM1 (setRow_heap _ _ _ _ _ _ m0) _ rfl ⟨?_, below_setRow B4 (Nat.le_refl _) _⟩
            rw [HT.out]; rfl
          · rw [if_neg hq] at HT
            have hq' : (V == can V M) = false := by simpa using hq
            obtain ⟨b, hb⟩ : ∃ b, b = (V == can V M) := ⟨_, rfl⟩
            rw [← hb] at hq' ⊢
            subst hq'
            clear hb hq
            go_wp2_with (first
              | (refine wl_zeroC rfl rfl ?_)
              | (refine wl_storeC rfl _ _ rfl w.heap.size Z Z rfl rfl _ m0 rfl hzl hzl _ rfl ?_))
            refine retCe (p := 4) (u := 5) rfl rfl w.heap.size rfl Z Z hzl hzl (setRow_heap _ _ _ _ _ _ m0) _ rfl ⟨?_, below_setRow B4 (Nat.le_refl _) _⟩
            rw [HT.out]; rfl
    · have HT : Hid (tcT L q = (Z, Z, 12)) := by show _ = _; unfold tcT; rw [if_pos h0, if_neg (by rw [← HN.out]; omega)]
      have hg : (n : Int) - 26 < q := by omega
      go_enter Try.func33, Try.ntmps33
      go_wp2_with (first
        | (refine wl_zeroC rfl rfl ?_)
        | (refine wl_storeC rfl _ _ rfl w.heap.size Z Z rfl rfl _ g0 rfl hzl hzl _ rfl ?_))
      refine retCe (p := 4) (u := 5) rfl rfl w.heap.size rfl Z Z hzl hzl (setRow_heap _ _ _ _ _ _ g0) _ rfl ⟨?_, below_setRow B0 (Nat.le_refl _) _⟩
      rw [HT.out]; rfl
  · have HT : Hid (tcT L p = (Z, Z, 1)) := by show _ = _; unfold tcT; rw [if_neg h0]
    have hp0 : p < 0 := by omega
    go_enter Try.func33, Try.ntmps33
    go_wp2_with (first
      | (refine wl_zeroC rfl rfl ?_)
      | (refine wl_storeC rfl _ _ rfl w.heap.size Z Z rfl rfl _ g0 rfl hzl hzl _ rfl ?_))
    refine retCe (p := 4) (u := 5) rfl rfl w.heap.size rfl Z Z hzl hzl (setRow_heap _ _ _ _ _ _ g0) _ rfl ⟨?_, below_setRow B0 (Nat.le_refl _) _⟩
    rw [HT.out]; rfl
end Go.Proofs.Ytjmbdoiibchokaa
