import Derived.Test.YtdaoeabnjfaoiaaJ15
import Derived.Test.YtdaoeabnjfaoiaaJ14
namespace Go.Proofs.Ytdaoeabnjfaoiaa
open Go Go.Lib Go.RowKit
set_option maxRecDepth 20000

structure FitX (v z : List Int) (room : Int) (n : Nat) (out : Nat → Nat × Nat) : Prop where
  one : ∀ i, i < n → 1 ≤ (out i).1 ∧ (out i).1 ≤ 6 ∧ thT v (out i).1 = true ∧ (out i).1 ≠ (out i).2 ∧ (out i).2 ≤ 6
  two : ∀ i, i < n → 1 < cntT (thT v) → 1 ≤ (out i).2 ∧ thT v (out i).2 = true
  non : ∀ i, i < n → cntT (thT v) ≤ 1 → (out i).2 = 0
  lds : ∀ m : Nat, 1 ≤ m → m ≤ 6 → loadsT z (pairsT out n) (m : Int) ≤ max room 0
set_option maxHeartbeats 8000000 in
set_option maxRecDepth 100000 in
theorem lawDFits_any (z0 v0 : List Int) (hz0 : ∀ x ∈ z0, -9223372036854775808 ≤ x ∧ x ≤ 9223372036854775807) (hv0 : ∀ x ∈ v0, -9223372036854775808 ≤ x ∧ x ≤ 9223372036854775807) (l : List Nat) (hW : AllW l) (room : Int) (hr1 : -9223372036854775808 ≤ room) (hr2 : room ≤ 9223372036854775807) (vz vl vw : Value) (w : World) (hz : ISl w vz z0) (hl : ISl w vl v0) (hw : FSl w vw l) :
    Calls Try.prog 4 #[vz, vl, vw, .int .i64 room] w fun e w' => e = .returned (.bool true) ∧ Below w.heap.size w w' := by
  obtain ⟨oz, nz0, nz, cz, z, rfl, KZ⟩ := cut100 hz0 hz
  obtain ⟨ov, nv0, nv, cv', v, rfl, KV⟩ := cut100 hv0 hl
  obtain ⟨ow, cw, rfl, _, _⟩ := hw.slice
  have hzl : z.length ≤ 1000 := by rw [KZ.len]; have := KZ.min; omega
  have AW : Hid (∀ W, Calls Try.prog 8 #[] W fun e w' => e = .returned (.bool true) ∧ Below W.heap.size W w') := fun W => awake13_any W
  have C1 : Hid (∀ W, Below w.heap.size w W → Calls Try.prog 9 #[.slice oz nz cz, .slice ov nv cv', .slice ow l.length cw, .int .i64 room] W fun e w' => (e = .returned (.tuple #[.slice none 0 0, .int .i64 15]) ∨ ∃ v1 out, e = .returned (.tuple #[v1, .int .i64 0]) ∧ PairsAt w' v1 (pairsT out nz) ∧ FitX v z room nz out) ∧ Below W.heap.size W w') := fun W hb => by
    refine (deal_any z v hzl l hW room hr1 hr2 KZ.bd _ _ _ W (VSl.below KZ.at_ hb) (VSl.below KV.at_ hb) (VSl.below hw hb)).mono ?_
    rintro e w' ⟨⟨o, ho, hr⟩, hbb⟩
    refine ⟨?_, hbb⟩
    cases hd : dealF (thT v) (wtT l) room (cntT (thT v)) (fun i => max (z.getD i 0) 0) o (fun _ => 0) (fun _ => (0, 0)) with
    | none => rw [hd] at hr; exact .inl hr
    | some st =>
      rw [hd] at hr
      obtain ⟨v1, he, hv⟩ := hr
      obtain ⟨hF, hL⟩ := fit_room ho (by omega) hd
      rw [KZ.len] at hv hL
      have hin : ∀ i, i < nz → i ∈ o := fun i hi => (ho.1 i).2 (by rw [KZ.len]; exact hi)
      exact .inr ⟨v1, st.2, he, hv.at_, ⟨fun i hi => by have := hF.one i (hin i hi); exact ⟨this.1, this.2.1, this.2.2.1, this.2.2.2, hF.two i (hin i hi)⟩, fun i hi => hF.twoT i (hin i hi), fun i hi => hF.twoN i (hin i hi), hL⟩⟩
  have LD : Hid (∀ W l' vl' n, Below w.heap.size w W → PairsAt W vl' l' → Calls Try.prog 12 #[.slice oz nz cz, vl', .int .i64 n] W fun e w' => e = .returned (.int .i64 (loadsT z l' n)) ∧ Below W.heap.size W w') := fun W l' vl' n hb h => loads_any z l' n _ _ W (VSl.below KZ.at_ hb) h
  have HZ : Hid (ISl w (.slice oz nz cz) z) := KZ.at_
  have HV : Hid (ISl w (.slice ov nv cv') v) := KV.at_
  have HVL : Hid (v.length = nv) := KV.len
  have hz1 := KZ.cap1
  have hz2 := KZ.cap2
  have hv1 := KV.cap1
  have hv2 := KV.cap2
  unfold maxLen at hz2 hv2
  have hzn := KZ.le
  have hvn := KV.le
  have hz100 : nz ≤ 100 := by have := KZ.min; omega
  have HZM : Hid ((nz : Int) = min (nz0 : Int) 100) := KZ.min
  have HVM : Hid ((nv : Int) = min (nv0 : Int) 100) := KV.min
  have hv100 : nv ≤ 100 := by have := KV.min; omega
  have hsz := KZ.slice
  have hsv := KV.slice
  obtain ⟨mx, hmx⟩ : ∃ m, m = max room 0 := ⟨_, rfl⟩
  have HMX : Hid (mx = max room 0) := hmx
  clear KZ KV hz hl hw hW hz0 hv0 hzl hmx
  generalize l.length = lw at *
  go_enter Try.func4, Try.ntmps4
  go_wp2_with fail
  refine (AW.out _).mono ?_
  rintro e w1 ⟨rfl, B1⟩
  have B1 : Hid (Below w.heap.size w w1) := B1
  go_wp2_with (first | (refine wl_min7 rfl _ _ rfl (nz0 : Int) 100 (nz : Int) rfl rfl HZM.out ?_) | (refine wl_min7 rfl _ _ rfl (nv0 : Int) 100 (nv : Int) rfl rfl HVM.out ?_))
  refine (C1.out _ B1.out).mono ?_
  rintro e w2 ⟨hor, hb2⟩
  have B2 : Hid (Below w.heap.size w w2) := B1.out.trans (hb2.mono B1.out.size)
  clear hb2 C1 AW
  rcases hor with rfl | ⟨v1, out, rfl, hp1, FX⟩
  · go_wp2_with fail
    go_ret
    exact ⟨by simp, B2.out⟩
  obtain ⟨ol, cl, rfl, hl1, hl2⟩ := GSl.slice hp1
  rw [pairs_len] at hp1 hl1 ⊢
  unfold maxLen at hl2
  have P2 : Hid (PairsAt w2 (.slice ol nz cl) (pairsT out nz)) := hp1
  have FX : Hid (FitX v z room nz out) := FX
  clear hp1
  go_wp2_with (first | (refine wl_makeV scB rfl _ _ rfl 7 rfl rfl (by omega) ?_; intro w3 ho3 hb3; refine of_stopT ?_))
  unfold StopT
  have T3 : Hid (VOwn 4 w2.heap.size w3 (.slice (some ⟨w2.heap.size, 0, none⟩) 7 7) (tV (thT (v.take 0)))) := by show VOwn _ _ _ _ _; rw [tV_none (thT (v.take 0)) (fun _ _ _ => rfl)]; exact ho3
  have B3 : Hid (Below w2.heap.size w2 w3) := hb3
  have C0 : cntT (thT (v.take 0)) = 0 := rfl
  clear ho3 hb3
  go_wp2_with fail
  go_loopw [12, 13] (fun vc vi wr => ∃ k : Nat, k ≤ nv ∧ vi = .int .i64 (k : Int) ∧ vc = .int .i64 (cntT (thT (v.take k)) : Nat) ∧ Hid (VOwn 4 w2.heap.size wr (.slice (some ⟨w2.heap.size, 0, none⟩) 7 7) (tV (thT (v.take k)))) ∧ Hid (Below w2.heap.size w2 wr)) (fun _ vi _ => nv - (intOf vi).toNat)
  case atStart => exact ⟨0, Nat.zero_le _, rfl, by rw [C0]; rfl, T3, B3⟩
  case round =>
    clear T3 B3 C0
    obtain ⟨k, hk, rfl, rfl, SX, BX⟩ := hrel
    have BW : Hid (Below w.heap.size w wr) := B2.out.trans (BX.out.mono B2.out.size)
    by_cases hlt : k < nv
    · have hlt' : (k : Int) < (nv : Int) := by omega
      obtain ⟨gv, offv, x, curv, tv, frv, rfl, hgv, hxv, hvk⟩ := ISl.at HV.out k hlt
      have hcx : wr.cell? ⟨gv, offv + k, none⟩ = some (.int .i64 x) := (cell_of_row _ _ _ _ _ _ ((BW.out.block gv (Array.getElem?_eq_some_iff.1 hgv).1).trans hgv)).trans hxv
      clear hgv hxv
      by_cases h1 : 1 ≤ x
      · have h1' : decide (x ≥ 1) = true := by simpa using h1
        have h1'' : decide (1 ≤ x) = true := by simpa using h1
        by_cases h6 : x ≤ 6
        · have h6' : decide (x ≤ 6) = true := by simpa using h6
          obtain ⟨m, rfl⟩ := Int.eq_ofNat_of_zero_le (show 0 ≤ x by omega)
          have hm7 : (m : Int) < 7 := by omega
          obtain ⟨c, hct, htm, hfr⟩ := SX.out.cell m (by omega)
          rw [tV_at _ (by omega) (by omega)] at htm
          obtain rfl : Value.bool (thT (v.take k) m) = c := Option.some.inj htm
          cases hth : thT (v.take k) m with
          | true =>
            rw [hth] at hct
            have SN : Hid (VOwn 4 w2.heap.size wr (.slice (some ⟨w2.heap.size, 0, none⟩) 7 7) (tV (thT (v.take (k + 1))))) := by show VOwn _ _ _ _ _; rw [← tV_congr (th_same hvk hth)]; exact SX.out
            have CC : Hid (Value.int .i64 (cntT (thT (v.take k)) : Nat) = .int .i64 (cntT (thT (v.take (k + 1))) : Nat)) := by show _ = _; rw [cnt_congr (th_same hvk hth)]
            generalize cntT (thT (v.take k)) = cc at CC ⊢
            clear hth htm SX
            go_wp2_with fail
            go_roundw
            case rel => exact ⟨k + 1, by omega, by go_num, CC.out, SN, BX⟩
            case measure => simp [intOf]; omega
          | false =>
            rw [hth] at hct
            have SN : Hid (VOwn 4 w2.heap.size (wr.setCell ⟨w2.heap.size, m, none⟩ (.bool true)) (.slice (some ⟨w2.heap.size, 0, none⟩) 7 7) (tV (thT (v.take (k + 1))))) := by show VOwn _ _ _ _ _; rw [← tV_congr (th_more hvk), ← tV_set _ (by omega) (by omega)]; exact SX.out.set m _
            have hK : Kept (fun j => j = w2.heap.size) wr (wr.setCell ⟨w2.heap.size, m, none⟩ (.bool true)) := Kept.of_grown (SX.out.setBelow m _) (fun j hj => by cases hj; rfl)
            have BX2 : Hid (Below w2.heap.size w2 (wr.setCell ⟨w2.heap.size, m, none⟩ (.bool true))) := BX.out.trans (hK.below (fun j hj => by omega) BX.out.size)
            have hcn : cntT (thT (v.take (k + 1))) = cntT (thT (v.take k)) + 1 := by rw [← cnt_congr (th_more hvk), cnt_upd _ m (by omega) (by omega), hth]; rfl
            have CC : Hid (cntT (thT (v.take (k + 1))) = cntT (thT (v.take k)) + 1) := hcn
            have hcl := cnt_le (thT (v.take k))
            generalize cntT (thT (v.take k)) = cc at CC hcl ⊢
            clear hth htm SX hK hcn
            go_wp2_with fail
            go_roundw
            case rel => exact ⟨k + 1, by omega, by go_num, by rw [CC.out]; go_num, SN, BX2⟩
            case measure => simp [intOf]; omega
        · have h6' : decide (x ≤ 6) = false := by simpa using h6
          have SN : Hid (VOwn 4 w2.heap.size wr (.slice (some ⟨w2.heap.size, 0, none⟩) 7 7) (tV (thT (v.take (k + 1))))) := by show VOwn _ _ _ _ _; rw [← tV_congr (th_odd hvk (.inr (by omega)))]; exact SX.out
          have CC : Hid (Value.int .i64 (cntT (thT (v.take k)) : Nat) = .int .i64 (cntT (thT (v.take (k + 1))) : Nat)) := by show _ = _; rw [cnt_congr (th_odd hvk (.inr (by omega)))]
          generalize cntT (thT (v.take k)) = cc at CC ⊢
          clear SX
          go_wp2_with fail
          go_roundw
          case rel => exact ⟨k + 1, by omega, by go_num, CC.out, SN, BX⟩
          case measure => simp [intOf]; omega
      · have h1' : decide (x ≥ 1) = false := by simpa using h1
        have h1'' : decide (1 ≤ x) = false := by simpa using h1
        have SN : Hid (VOwn 4 w2.heap.size wr (.slice (some ⟨w2.heap.size, 0, none⟩) 7 7) (tV (thT (v.take (k + 1))))) := by show VOwn _ _ _ _ _; rw [← tV_congr (th_odd hvk (.inl (by omega)))]; exact SX.out
        have CC : Hid (Value.int .i64 (cntT (thT (v.take k)) : Nat) = .int .i64 (cntT (thT (v.take (k + 1))) : Nat)) := by show _ = _; rw [cnt_congr (th_odd hvk (.inl (by omega)))]
        generalize cntT (thT (v.take k)) = cc at CC ⊢
        clear SX
        go_wp2_with fail
        go_roundw
        case rel => exact ⟨k + 1, by omega, by go_num, CC.out, SN, BX⟩
        case measure => simp [intOf]; omega
    · have hlt' : ¬ (k : Int) < (nv : Int) := by omega
      obtain rfl : nv = k := by omega
      rw [show v.take nv = v by rw [← HVL.out]; exact List.take_length] at SX ⊢
      obtain ⟨cc, hcc⟩ : ∃ c, c = cntT (thT v) := ⟨_, rfl⟩
      have HC : Hid (cc = cntT (thT v)) := hcc
      have hc6 : cc ≤ 6 := by rw [hcc]; exact cnt_le _
      rw [← hcc]
      clear hcc
      have WR : Hid True := trivial
      go_wp2_with fail
      go_loopw [14] (fun vi wr' => ∃ k : Nat, k ≤ nz ∧ vi = .int .i64 (k : Int) ∧ wr' = wr) (fun vi _ => nz - (intOf vi).toNat)
      case atStart => exact ⟨0, Nat.zero_le _, rfl, rfl⟩
      case round =>
        obtain ⟨k, hk, rfl, rfl⟩ := hrel
        by_cases hlt : k < nz
        · have hlt2 : (k : Int) < (nz : Int) := by omega
          obtain ⟨gz, offz, x, rfl, hx, hzk⟩ := ISl.cell (VSl.below HZ.out BW.out) k hlt
          clear hzk
          by_cases hbig : x > 1048576
          · have hbig' : decide (x > 1048576) = true := by simpa using hbig
            have hbig'' : decide (1048576 < x) = true := by simpa using hbig
            go_wp2_with fail
            go_ret
            exact ⟨by simp, BW.out⟩
          · have hbig' : decide (x > 1048576) = false := by simpa using hbig
            have hbig'' : decide (1048576 < x) = false := by simpa using hbig
            obtain ⟨g2, off2, cur2, t2, fr2, p, rfl, hg2, hc2, hlk⟩ := (GSl.below P2.out BX.out).at k (by first | exact hlt | (rw [pairs_len]; exact hlt))
            have p0 : wr.cell? ⟨g2, off2 + k * 2, none⟩ = some (.int .i64 p.1) := (cell_of_row _ _ _ _ _ _ hg2).trans (hc2 0 (by show 0 < 2; omega))
            have p1 : wr.cell? ⟨g2, off2 + k * 2 + 1, none⟩ = some (.int .i64 p.2) := (cell_of_row _ _ _ _ _ _ hg2).trans (hc2 1 (by show 1 < 2; omega))
            have hpk : p = (((out k).1 : Int), ((out k).2 : Int)) := by
              unfold pairsT at hlk
              rw [List.getElem?_map, List.getElem?_range hlt] at hlk
              exact (Option.some.inj hlk).symm
            rw [hpk] at p0 p1
            simp only at p0 p1
            obtain ⟨o1, o6, ot, ond, o26⟩ := FX.out.one k hlt
            have otw := FX.out.two k hlt
            have onn := FX.out.non k hlt
            rw [← HC.out] at otw onn
            generalize (out k).1 = a at *
            generalize (out k).2 = b at *
            clear hpk hg2 hc2 hlk
            obtain ⟨c, hca, htm, _⟩ := SX.out.cell a (by omega)
            rw [tV_at _ (by omega) (by omega), ot] at htm
            obtain rfl : Value.bool true = c := Option.some.inj htm
            clear htm
            have a1 : decide ((a : Int) < 1) = false := by simp; omega
            have a6 : decide ((a : Int) > 6) = false := by simp; omega
            have a6' : decide (6 < (a : Int)) = false := by simp; omega
            have b0 : decide ((b : Int) < 0) = false := by simp
            have b6 : decide ((b : Int) > 6) = false := by simp; omega
            have b6' : decide (6 < (b : Int)) = false := by simp; omega
            have ab : ((a : Int) == (b : Int)) = false := by simp; omega
            have ha7 : (a : Int) < 7 := by omega
            by_cases hc1 : 1 < cc
            · have c1 : decide ((cc : Int) > 1) = true := by simp; omega
              have c1' : decide (1 < (cc : Int)) = true := by simp; omega
              have c2 : ((cc : Int) == 1) = false := by simp; omega
              obtain ⟨hb1, hbt⟩ := otw hc1
              obtain ⟨c, hcb, htm, _⟩ := SX.out.cell b (by omega)
              rw [tV_at _ (by omega) (by omega), hbt] at htm
              obtain rfl : Value.bool true = c := Option.some.inj htm
              have hb7 : (b : Int) < 7 := by omega
              clear htm otw onn
              go_wp2_with fail
              go_roundw
              case rel => first | exact ⟨k + 1, by omega, by go_num, trivial⟩ | exact ⟨k + 1, by omega, by go_num⟩
              case measure => simp [intOf]; omega
            · have c1 : decide ((cc : Int) > 1) = false := by simp; omega
              have c1' : decide (1 < (cc : Int)) = false := by simp; omega
              have hb0 : b = 0 := onn (by omega)
              subst hb0
              by_cases hc2 : cc = 1
              · have c2 : ((cc : Int) == 1) = true := by simp; omega
                clear otw onn
                go_wp2_with fail
                go_roundw
                case rel => first | exact ⟨k + 1, by omega, by go_num, trivial⟩ | exact ⟨k + 1, by omega, by go_num⟩
                case measure => simp [intOf]; omega
              · have c2 : ((cc : Int) == 1) = false := by simp; omega
                clear otw onn
                go_wp2_with fail
                go_roundw
                case rel => first | exact ⟨k + 1, by omega, by go_num, trivial⟩ | exact ⟨k + 1, by omega, by go_num⟩
                case measure => simp [intOf]; omega
        · have hlt2 : ¬ (k : Int) < (nz : Int) := by omega
          obtain rfl : nz = k := by omega
          go_wp2_with fail
          go_loopw [17] (fun vi wr' => ∃ k : Nat, 1 ≤ k ∧ k ≤ 7 ∧ vi = .int .i64 (k : Int) ∧ Hid (Below w2.heap.size w2 wr')) (fun vi _ => 7 - (intOf vi).toNat)
          case atStart => exact ⟨1, by omega, by omega, rfl, BX⟩
          case round =>
            clear BX BW
            obtain ⟨m, hm1, hm7, rfl, BY⟩ := hrel
            have BW : Hid (Below w.heap.size w wr) := B2.out.trans (BY.out.mono B2.out.size)
            by_cases hm6 : m ≤ 6
            · have hm6' : decide ((m : Int) ≤ 6) = true := by simp; omega
              have hle := FX.out.lds m hm1 hm6
              rw [← HMX.out] at hle
              go_wp2_with fail
              refine (LD.out _ (pairsT out nz) _ _ BW.out (GSl.below P2.out BY.out)).mono ?_
              rintro e w5 ⟨rfl, hb5⟩
              have B5 : Hid (Below w2.heap.size w2 w5) := BY.out.trans (hb5.mono BY.out.size)
              generalize loadsT z (pairsT out nz) (m : Int) = ld at hle ⊢
              have hgt : decide (ld > mx) = false := by simpa using hle
              have hgt' : decide (mx < ld) = false := by simpa using hle
              clear hb5
              go_wp2_with (refine wl_maxI rfl _ _ rfl room 0 mx rfl rfl HMX.out ?_)
              go_roundw
              case rel => exact ⟨m + 1, by omega, by omega, by go_num, B5⟩
              case measure => simp [intOf]; omega
            · have hm6' : decide ((m : Int) ≤ 6) = false := by simp; omega
              go_wp2_with fail
              go_ret
              exact ⟨by simp, BW.out⟩
end Go.Proofs.Ytdaoeabnjfaoiaa
