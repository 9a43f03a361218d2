import Derived.Test.YtdaoeabnjfaoiaaJ12
import Derived.Deep.CutRange
namespace Go.Proofs.Ytdaoeabnjfaoiaa
open Go Go.Lib Go.RowKit
set_option maxRecDepth 20000

set_option maxHeartbeats 16000000 in
set_option maxRecDepth 100000 in
theorem rdeal_any (z live : List Int) (hn : z.length ≤ 1000) (hlv : live.length ≤ 1000) (l : List Nat) (hW : AllW l) (room : Int) (hr1 : -9223372036854775808 ≤ room) (hr2 : room ≤ 9223372036854775807) (hz2 : ∀ x ∈ z, x ≤ 9223372036854775807) (vz vl vw : Value) (w : World) (hz : ISl w vz z) (hl : ISl w vl live) (hw : FSl w vw l) :
    Calls Try.prog 10 #[vz, vl, vw, .int .i64 room] w fun e w' => (∃ o, IsOrd (fun i => -max (z.getD i 0) 0) z.length o ∧ dealR w w' z.length (dealF (thT live) (wtT l) room (cntT (thT live)) (fun i => max (z.getD i 0) 0) o (fun _ => 0) (fun _ => (0, 0))) e) ∧ Below w.heap.size w w' := by
  obtain ⟨SS, hSS⟩ : ∃ SS : Nat → Int, SS = fun i => max (z.getD i 0) 0 := ⟨_, rfl⟩
  have HSX : Hid (∀ (i : Nat) (x : Int), z[i]? = some x → SS i = max x 0) := fun i x h => by rw [hSS]; show max (z.getD i 0) 0 = _; rw [List.getD, h]; rfl
  have hKK : (fun i => -max (z.getD i 0) 0) = fun i => -SS i := by rw [hSS]
  rw [hKK, ← hSS]
  clear hKK hSS
  have SZ : Hid (∀ (x : Int) W, Calls Try.prog 16 #[.int .i64 x] W fun e w' => e = .returned (.int .i64 (max x 0)) ∧ w' = W) := fun x W => size_any x W
  have GV : Hid (∀ (th : Nat → Bool) (ld : Nat → Int) (vt : Value) (s : Int) (but gl B : Nat) W, Below w.heap.size w W → VOwn 3 B W (.slice (some ⟨gl, 0, none⟩) 7 7) (lV ld) → VSl W vt (tV th) → 0 ≤ s → s ≤ 9223372036854775807 → okLd th room ld → Calls Try.prog 17 #[.slice (some ⟨gl, 0, none⟩) 7 7, vt, vw, .int .i64 room, .int .i64 s, .int .i64 (but : Int)] W fun e w' => e = .returned (.int .i64 (giveN th ld (wtT l) room s but : Nat)) ∧ VOwn 3 B w' (.slice (some ⟨gl, 0, none⟩) 7 7) (lV (ldUp ld (giveN th ld (wtT l) room s but) s)) ∧ Kept (fun k => k = gl) W w') := fun th ld vt s but gl B W hb h1 h2 h3 h4 h5 => rgive_any th ld l hW vw vt room s but gl B W h1 h2 (VSl.below hw hb) hr1 hr2 h3 h4 h5
  obtain ⟨oz, cz, rfl, hz3, hz4⟩ := hz.slice
  obtain ⟨ov, cvv, rfl, hv3, hv4⟩ := hl.slice
  unfold maxLen at hz4 hv4
  obtain ⟨n, hn0⟩ : ∃ n, n = z.length := ⟨_, rfl⟩
  obtain ⟨nv, hnv⟩ : ∃ nv, nv = live.length := ⟨_, rfl⟩
  have HNV : Hid (nv = live.length) := hnv
  have HZX : Hid (∀ x ∈ z, x ≤ 9223372036854775807) := hz2
  rw [← hn0] at hz hz3 hn ⊢
  rw [← hnv] at hl hv3 hlv ⊢
  have HZ : Hid (ISl w (.slice oz n cz) z) := hz
  have HV : Hid (ISl w (.slice ov nv cvv) live) := hl
  clear hz hl hw hW hn0 hnv hz2
  go_enter Try.func10, Try.ntmps10
  go_wp2_with (first | (refine wl_makeP rfl _ _ rfl n rfl rfl (by omega) ?_; intro w1 ho1 hb1; refine of_stopT ?_))
  unfold StopT
  have hs1 : w.heap.size < w1.heap.size := (World.ownsRow.lt ho1 _ rfl).2
  go_wp2_with (first | (refine wl_makeV scB rfl _ _ rfl n rfl rfl (by omega) ?_; intro w2 ho2 hb2; refine of_stopT ?_))
  unfold StopT
  have hs2 : w1.heap.size < w2.heap.size := (ho2.ge _ rfl).2
  go_wp2_with (first | (refine wl_makeV scI rfl _ _ rfl 7 rfl rfl (by omega) ?_; intro w3 ho3 hb3; refine of_stopT ?_))
  unfold StopT
  have hs3 : w2.heap.size < w3.heap.size := (ho3.ge _ rfl).2
  go_wp2_with (first | (refine wl_makeV scB rfl _ _ rfl 7 rfl rfl (by omega) ?_; intro w4 ho4 hb4; refine of_stopT ?_))
  unfold StopT
  have b13 : Below w1.heap.size w1 w4 := hb2.trans ((hb3.trans (hb4.mono hb3.size)).mono hb2.size)
  have b24 : Below w2.heap.size w2 w4 := hb3.trans (hb4.mono hb3.size)
  have BW4 : Hid (Below w.heap.size w w4) := hb1.trans (b13.mono hb1.size)
  have S4 : Hid (RdS w.heap.size w4 w.heap.size w1.heap.size w2.heap.size w3.heap.size n (fun _ => (0, 0)) [] (fun _ => 0) (thT (live.take 0))) :=
    ⟨by rw [pairs_zero]; exact gown_below ho1 b13, by rw [dV_nil]; exact ((ho2.below b24).base (by omega)), by rw [lV_zero]; exact (ho3.below hb4).base (by omega), by rw [tV_none (thT (live.take 0)) (fun _ _ _ => rfl)]; exact ho4.base (by omega), hs1, hs2, hs3, Nat.le_refl _⟩
  clear ho1 ho2 ho3 ho4 hb1 hb2 hb3 hb4 b13 b24
  generalize w1.heap.size = gd at *
  generalize w2.heap.size = gl at *
  generalize w3.heap.size = gt at *
  have C0 : cntT (thT (live.take 0)) = 0 := rfl
  go_wp2_with fail
  go_loopw [14, 15] (fun vc vi wr => ∃ k : Nat, k ≤ nv ∧ vi = .int .i64 (k : Int) ∧ vc = .int .i64 (cntT (thT (live.take k)) : Nat) ∧ Hid (RdS w.heap.size wr w.heap.size gd gl gt n (fun _ => (0, 0)) [] (fun _ => 0) (thT (live.take k))) ∧ Hid (Below w.heap.size w wr)) (fun _ vi _ => nv - (intOf vi).toNat)
  case atStart => exact ⟨0, Nat.zero_le _, rfl, by rw [C0]; rfl, S4, BW4⟩
  case round =>
    clear S4 BW4 C0
    obtain ⟨k, hk, rfl, rfl, SX, BX⟩ := hrel
    by_cases hlt : k < nv
    · have hlt' : (k : Int) < (nv : Int) := by omega
      obtain ⟨gv, offv, x, curv, tv, frv, rfl, hgv, hxv, hvk⟩ := ISl.at HV.out k hlt
      have hcx : wr.cell? ⟨gv, offv + k, none⟩ = some (.int .i64 x) := (cell_of_row _ _ _ _ _ _ ((BX.out.block gv (Array.getElem?_eq_some_iff.1 hgv).1).trans hgv)).trans hxv
      clear hgv hxv
      by_cases h1 : 1 ≤ x
      · have h1' : decide (x ≥ 1) = true := by simpa using h1
        have h1'' : decide (1 ≤ x) = true := by simpa using h1
        by_cases h6 : x ≤ 6
        · have h6' : decide (x ≤ 6) = true := by simpa using h6
          obtain ⟨m, rfl⟩ := Int.eq_ofNat_of_zero_le (show 0 ≤ x by omega)
          have hm7 : (m : Int) < 7 := by omega
          obtain ⟨c, hct, htm, hfr⟩ := SX.out.t.cell m (by omega)
          rw [tV_at _ (by omega) (by omega)] at htm
          obtain rfl : Value.bool (thT (live.take k) m) = c := Option.some.inj htm
          cases hth : thT (live.take k) m with
          | true =>
            rw [hth] at hct
            have SN : Hid (RdS w.heap.size wr w.heap.size gd gl gt n (fun _ => (0, 0)) [] (fun _ => 0) (thT (live.take (k + 1)))) := SX.out.congr (th_same hvk hth)
            have CC : Hid (Value.int .i64 (cntT (thT (live.take k)) : Nat) = .int .i64 (cntT (thT (live.take (k + 1))) : Nat)) := by show _ = _; rw [cnt_congr (th_same hvk hth)]
            generalize cntT (thT (live.take k)) = cc at CC ⊢
            clear hth htm SX
            go_wp2_with fail
            go_roundw
            case rel => exact ⟨k + 1, by omega, by go_num, CC.out, SN, BX⟩
            case measure => simp [intOf]; omega
          | false =>
            rw [hth] at hct
            obtain ⟨hS, hK⟩ := SX.out.there (m := m) (by omega) (by omega)
            have SN : Hid (RdS w.heap.size (wr.setCell ⟨gt, m, none⟩ (.bool true)) w.heap.size gd gl gt n (fun _ => (0, 0)) [] (fun _ => 0) (thT (live.take (k + 1)))) := hS.congr (th_more hvk)
            have hgt : w.heap.size ≤ gt := (SX.out.t.ge gt rfl).1
            have BX2 : Hid (Below w.heap.size w (wr.setCell ⟨gt, m, none⟩ (.bool true))) := BX.out.trans (hK.below (fun j hj => by omega) BX.out.size)
            have hcn : cntT (thT (live.take (k + 1))) = cntT (thT (live.take k)) + 1 := by rw [← cnt_congr (th_more hvk), cnt_upd _ m (by omega) (by omega), hth]; rfl
            have CC : Hid (cntT (thT (live.take (k + 1))) = cntT (thT (live.take k)) + 1) := hcn
            have hcl := cnt_le (thT (live.take k))
            generalize cntT (thT (live.take k)) = cc at CC hcl ⊢
            clear hth htm SX hS hK hcn
            go_wp2_with fail
            go_roundw
            case rel => exact ⟨k + 1, by omega, by go_num, by rw [CC.out]; go_num, SN, BX2⟩
            case measure => simp [intOf]; omega
        · have h6' : decide (x ≤ 6) = false := by simpa using h6
          have SN : Hid (RdS w.heap.size wr w.heap.size gd gl gt n (fun _ => (0, 0)) [] (fun _ => 0) (thT (live.take (k + 1)))) := SX.out.congr (th_odd hvk (.inr (by omega)))
          have CC : Hid (Value.int .i64 (cntT (thT (live.take k)) : Nat) = .int .i64 (cntT (thT (live.take (k + 1))) : Nat)) := by show _ = _; rw [cnt_congr (th_odd hvk (.inr (by omega)))]
          generalize cntT (thT (live.take k)) = cc at CC ⊢
          clear SX
          go_wp2_with fail
          go_roundw
          case rel => exact ⟨k + 1, by omega, by go_num, CC.out, SN, BX⟩
          case measure => simp [intOf]; omega
      · have h1' : decide (x ≥ 1) = false := by simpa using h1
        have h1'' : decide (1 ≤ x) = false := by simpa using h1
        have SN : Hid (RdS w.heap.size wr w.heap.size gd gl gt n (fun _ => (0, 0)) [] (fun _ => 0) (thT (live.take (k + 1)))) := SX.out.congr (th_odd hvk (.inl (by omega)))
        have CC : Hid (Value.int .i64 (cntT (thT (live.take k)) : Nat) = .int .i64 (cntT (thT (live.take (k + 1))) : Nat)) := by show _ = _; rw [cnt_congr (th_odd hvk (.inl (by omega)))]
        generalize cntT (thT (live.take k)) = cc at CC ⊢
        clear SX
        go_wp2_with fail
        go_roundw
        case rel => exact ⟨k + 1, by omega, by go_num, CC.out, SN, BX⟩
        case measure => simp [intOf]; omega
    · have hlt' : ¬ (k : Int) < (nv : Int) := by omega
      have htk : live.take k = live := List.take_of_length_le (by have := HNV.out; omega)
      rw [htk] at SX ⊢
      obtain ⟨th, hth⟩ : ∃ th, th = thT live := ⟨_, rfl⟩
      have HTH : Hid (th = thT live) := hth
      rw [← hth] at SX ⊢
      have P0 : Hid (PartOrd (fun i => -SS i) n []) := part_nil _ _
      have OK0 : Hid (okLd th room (fun _ => 0)) := fun k _ _ _ => ⟨Int.le_refl _, by show (0 : Int) ≤ max room 0; omega⟩
      have D0 : Hid (dealF th (wtT l) room (cntT th) SS [] (fun _ => 0) (fun _ => (0, 0)) = some ((fun _ => 0), (fun _ => (0, 0)))) := rfl
      obtain ⟨cc, hcc⟩ : ∃ cc, cc = cntT th := ⟨_, rfl⟩
      have HCC : Hid (cc = cntT th) := hcc
      have hcl := cnt_le th
      rw [← hcc] at hcl ⊢
      clear hcc hth htk hlt hk HV
      go_wp2_with fail
      go_loopw [16] (fun vk wx => ∃ (k : Nat) (o : List Nat) (ld : Nat → Int) (out : Nat → Nat × Nat), k ≤ n ∧ vk = .int .i64 (k : Int) ∧ Hid (o.length = k) ∧ Hid (PartOrd (fun i => -SS i) n o) ∧ Hid (okLd th room ld) ∧ Hid (RdS w.heap.size wx w.heap.size gd gl gt n out o ld th) ∧ Hid (dealF th (wtT l) room (cntT th) SS o (fun _ => 0) (fun _ => (0, 0)) = some (ld, out)) ∧ Hid (Below w.heap.size w wx)) (fun vk _ => n - (intOf vk).toNat)
      case atStart => exact ⟨0, [], _, _, Nat.zero_le _, rfl, rfl, P0, OK0, SX, D0, BX⟩
      case round =>
        clear P0 OK0 D0 SX BX
        obtain ⟨k, o, ld, out, hk, rfl, HOL, HPO, HLD, SX, HDF, BX⟩ := hrel
        obtain ⟨wo, hwo⟩ : ∃ wo : World, wo = wr := ⟨_, rfl⟩
        rw [← hwo] at SX BX ⊢
        clear hwo
        by_cases hlt : k < n
        · have hlt' : (k : Int) < (n : Int) := by omega
          go_wp2_with fail
          go_loopw [17, 18] (fun va vi wx => ∃ (j : Nat) (av : Int), j ≤ n ∧ vi = .int .i64 (j : Int) ∧ va = .int .i64 av ∧ Hid ((av = -1 ∧ ∀ i, i < j → i ∈ o) ∨ ∃ b : Nat, av = (b : Int) ∧ IsFirst (fun i => -SS i) o j b) ∧ Hid (Below wo.heap.size wo wx)) (fun _ vi _ => n - (intOf vi).toNat)
          case atStart => exact ⟨0, -1, Nat.zero_le _, rfl, rfl, .inl ⟨rfl, fun i hi => by omega⟩, Below.refl _ _⟩
          case round =>
            obtain ⟨j, av, hj, rfl, rfl, HA, HX⟩ := hrel
            have BW : Hid (Below w.heap.size w wr) := BX.out.trans (HX.out.mono BX.out.size)
            have SW := SX.out.below HX.out
            by_cases hjn : j < n
            · have hjn' : (j : Int) < (n : Int) := by omega
              obtain ⟨g5, off5, c, he5, ⟨cur5, t5, fr5, hg5, hc5⟩, hd5⟩ := SW.d.sl.row j hjn
              simp only [Option.some.injEq, Addr.mk.injEq, and_true] at he5
              obtain ⟨rfl, rfl⟩ := he5
              rw [dV_at _ hjn] at hd5
              obtain rfl : Value.bool (decide (j ∈ o)) = c := Option.some.inj hd5
              obtain ⟨gz, offz, x, curz, tz, frz, rfl, hgz, hxz, hzj⟩ := ISl.at HZ.out j hjn
              have hgz2 := (BW.out.block gz (Array.getElem?_eq_some_iff.1 hgz).1).trans hgz
              have ex : ∀ v : Later wr, v.world.cell? ⟨gz, offz + j, none⟩ = some (.int .i64 x) := fun v => (cell_of_row _ _ _ _ _ _ (later_block hgz2 _ ⟨v, rfl⟩)).trans hxz
              have ed0 : ∀ v : Later wr, v.world.cell? ⟨gd, 0 + j, none⟩ = some (.bool (decide (j ∈ o))) := fun v => (cell_of_row _ _ _ _ _ _ (later_block hg5 _ ⟨v, rfl⟩)).trans hc5
              rw [Nat.zero_add] at ed0
              have hsx := HSX.out j x hzj
              have ne1 := Later.ne wr
              by_cases hjo : j ∈ o
              · have ed : ∀ v : Later wr, v.world.cell? ⟨gd, j, none⟩ = some (.bool true) := by rw [show decide (j ∈ o) = true by simpa using hjo] at ed0; exact ed0
                have HN : Hid ((av = -1 ∧ ∀ i, i < j + 1 → i ∈ o) ∨ ∃ b : Nat, av = (b : Int) ∧ IsFirst (fun i => -SS i) o (j + 1) b) := by
                  rcases HA.out with ⟨h1, h2⟩ | ⟨b, h1, h2⟩
                  · refine .inl ⟨h1, fun i hi => ?_⟩
                    by_cases e : i = j
                    · rw [e]; exact hjo
                    · exact h2 i (by omega)
                  · exact .inr ⟨b, h1, first_skip h2 (.inl hjo)⟩
                clear ed0 hgz hxz hzj hgz2 hg5 hc5 hd5 hjo hsx HA SW
                go_wp2_with fail
                refine wp_region_later (by kernel_rfl) (by kernel_rfl) ?_
                repeat go_big_quiet_step (fail)
                refine wpQuiet_nil ?_
                rintro w3 ⟨v5, rfl⟩
                have hb3 := v5.below
                obtain ⟨w3, hw3⟩ : ∃ w3, w3 = v5.world := ⟨_, rfl⟩
                rw [← hw3] at hb3 ⊢
                have B3 : Hid (Below wo.heap.size wo w3) := HX.out.trans (hb3.mono HX.out.size)
                clear hb3 hw3 v5 ne1 ed ex
                go_wp2_with fail
                go_roundw
                case rel => exact ⟨j + 1, av, by omega, by go_num, rfl, HN, B3⟩
                case measure => simp [intOf]; omega
              · have ed : ∀ v : Later wr, v.world.cell? ⟨gd, j, none⟩ = some (.bool false) := by rw [show decide (j ∈ o) = false by simpa using hjo] at ed0; exact ed0
                rcases HA.out with ⟨rfl, h2⟩ | ⟨b, rfl, h2⟩
                · have HN : Hid (((j : Int) = -1 ∧ ∀ i, i < j + 1 → i ∈ o) ∨ ∃ b : Nat, (j : Int) = (b : Int) ∧ IsFirst (fun i => -SS i) o (j + 1) b) := .inr ⟨j, rfl, first_begin hjo h2⟩
                  clear ed0 hgz hxz hzj hgz2 hg5 hc5 hd5 hjo hsx HA SW h2
                  go_wp2_with fail
                  refine wp_region_later (by kernel_rfl) (by kernel_rfl) ?_
                  repeat go_big_quiet_step (fail)
                  refine wpQuiet_nil ?_
                  rintro w3 ⟨v5, rfl⟩
                  have hb3 := v5.below
                  obtain ⟨w3, hw3⟩ : ∃ w3, w3 = v5.world := ⟨_, rfl⟩
                  rw [← hw3] at hb3 ⊢
                  have B3 : Hid (Below wo.heap.size wo w3) := HX.out.trans (hb3.mono HX.out.size)
                  clear hb3 hw3 v5 ne1 ed ex
                  go_wp2_with fail
                  go_roundw
                  case rel => exact ⟨j + 1, (j : Int), by omega, by go_num, rfl, HN, B3⟩
                  case measure => simp [intOf]; omega
                · have hbn : b < n := Nat.lt_of_lt_of_le h2.1 (by omega)
                  have hbn' : (b : Int) < (n : Int) := by omega
                  obtain ⟨gz', offz', xb, curz', tz', frz', he6, hgz', hxb, hzb⟩ := ISl.at HZ.out b hbn
                  simp only [Option.some.injEq, Addr.mk.injEq, and_true] at he6
                  obtain ⟨rfl, rfl⟩ := he6
                  have hgz3 := (BW.out.block gz (Array.getElem?_eq_some_iff.1 hgz').1).trans hgz'
                  have eb : ∀ v : Later wr, v.world.cell? ⟨gz, offz + b, none⟩ = some (.int .i64 xb) := fun v => (cell_of_row _ _ _ _ _ _ (later_block hgz3 _ ⟨v, rfl⟩)).trans hxb
                  have hsb := HSX.out b xb hzb
                  have hb0 : decide ((b : Int) < 0) = false := by simp
                  by_cases hgt : max xb 0 < max x 0
                  · have hgt' : decide (max xb 0 < max x 0) = true := by simpa using hgt
                    have HN : Hid (((j : Int) = -1 ∧ ∀ i, i < j + 1 → i ∈ o) ∨ ∃ b : Nat, (j : Int) = (b : Int) ∧ IsFirst (fun i => -SS i) o (j + 1) b) := .inr ⟨j, rfl, first_take h2 hjo (by show -SS j < -SS b; rw [hsx, hsb]; omega)⟩
                    clear ed0 hgz hxz hzj hgz2 hg5 hc5 hd5 hjo hsx HA SW h2 hgz' hxb hzb hgz3 hsb
                    generalize hmx : max x 0 = mx at *
                    generalize hmb : max xb 0 = mb at *
                    have SZ1 : Hid (∀ W, Calls Try.prog 16 #[.int .i64 x] W fun e w' => e = .returned (.int .i64 mx) ∧ w' = W) := fun W => by have h := SZ.out x W; rw [hmx] at h; exact h
                    have SZ2 : Hid (∀ W, Calls Try.prog 16 #[.int .i64 xb] W fun e w' => e = .returned (.int .i64 mb) ∧ w' = W) := fun W => by have h := SZ.out xb W; rw [hmb] at h; exact h
                    clear hmx hmb hgt
                    go_wp2_with fail
                    refine wp_region_later (by kernel_rfl) (by kernel_rfl) ?_
                    repeat go_big_quiet_step (fail)
                    go_big_quiet_want; go_big_quiet_op
                    refine ⟨_, fun u => Calls.later_of ((SZ1.out u.world).mono fun e w' h => ⟨h.1, by rw [h.2]; exact Below.refl _ _⟩), ?_⟩
                    go_big_quiet_on
                    repeat go_big_quiet_step (fail)
                    go_big_quiet_want; go_big_quiet_op
                    refine ⟨_, fun u => Calls.later_of ((SZ2.out u.world).mono fun e w' h => ⟨h.1, by rw [h.2]; exact Below.refl _ _⟩), ?_⟩
                    go_big_quiet_on
                    repeat go_big_quiet_step (fail)
                    refine wpQuiet_nil ?_
                    rintro w3 ⟨v5, rfl⟩
                    have hb3 := v5.below
                    obtain ⟨w3, hw3⟩ : ∃ w3, w3 = v5.world := ⟨_, rfl⟩
                    rw [← hw3] at hb3 ⊢
                    have B3 : Hid (Below wo.heap.size wo w3) := HX.out.trans (hb3.mono HX.out.size)
                    clear eb hb3 hw3 v5 ne1 ed ex
                    go_wp2_with fail
                    go_roundw
                    case rel => exact ⟨j + 1, (j : Int), by omega, by go_num, rfl, HN, B3⟩
                    case measure => simp [intOf]; omega
                  · have hgt' : decide (max xb 0 < max x 0) = false := by simpa using hgt
                    have HN : Hid (((b : Int) = -1 ∧ ∀ i, i < j + 1 → i ∈ o) ∨ ∃ c : Nat, (b : Int) = (c : Int) ∧ IsFirst (fun i => -SS i) o (j + 1) c) := .inr ⟨b, rfl, first_skip h2 (.inr (by show ¬ -SS j < -SS b; rw [hsx, hsb]; omega))⟩
                    clear ed0 hgz hxz hzj hgz2 hg5 hc5 hd5 hjo hsx HA SW h2 hgz' hxb hzb hgz3 hsb
                    generalize hmx : max x 0 = mx at *
                    generalize hmb : max xb 0 = mb at *
                    have SZ1 : Hid (∀ W, Calls Try.prog 16 #[.int .i64 x] W fun e w' => e = .returned (.int .i64 mx) ∧ w' = W) := fun W => by have h := SZ.out x W; rw [hmx] at h; exact h
                    have SZ2 : Hid (∀ W, Calls Try.prog 16 #[.int .i64 xb] W fun e w' => e = .returned (.int .i64 mb) ∧ w' = W) := fun W => by have h := SZ.out xb W; rw [hmb] at h; exact h
                    clear hmx hmb hgt
                    go_wp2_with fail
                    refine wp_region_later (by kernel_rfl) (by kernel_rfl) ?_
                    repeat go_big_quiet_step (fail)
                    go_big_quiet_want; go_big_quiet_op
                    refine ⟨_, fun u => Calls.later_of ((SZ1.out u.world).mono fun e w' h => ⟨h.1, by rw [h.2]; exact Below.refl _ _⟩), ?_⟩
                    go_big_quiet_on
                    repeat go_big_quiet_step (fail)
                    go_big_quiet_want; go_big_quiet_op
                    refine ⟨_, fun u => Calls.later_of ((SZ2.out u.world).mono fun e w' h => ⟨h.1, by rw [h.2]; exact Below.refl _ _⟩), ?_⟩
                    go_big_quiet_on
                    repeat go_big_quiet_step (fail)
                    refine wpQuiet_nil ?_
                    rintro w3 ⟨v5, rfl⟩
                    have hb3 := v5.below
                    obtain ⟨w3, hw3⟩ : ∃ w3, w3 = v5.world := ⟨_, rfl⟩
                    rw [← hw3] at hb3 ⊢
                    have B3 : Hid (Below wo.heap.size wo w3) := HX.out.trans (hb3.mono HX.out.size)
                    clear eb hb3 hw3 v5 ne1 ed ex
                    go_wp2_with fail
                    go_roundw
                    case rel => exact ⟨j + 1, (b : Int), by omega, by go_num, rfl, HN, B3⟩
                    case measure => simp [intOf]; omega
            · have hjn' : ¬ (j : Int) < (n : Int) := by omega
              obtain rfl : n = j := by omega
              obtain ⟨b, rfl, hfb⟩ : ∃ b : Nat, av = (b : Int) ∧ IsFirst (fun i => -SS i) o n b := by
                rcases HA.out with ⟨_, h⟩ | h
                · obtain ⟨i, hi, hio⟩ := part_more (n := n) (o := o) (by have := HOL.out; omega)
                  exact absurd (h i hi) hio
                · exact h
              have hbn : b < n := hfb.1
              have hbn' : (b : Int) < (n : Int) := by omega
              have PN : Hid (PartOrd (fun i => -SS i) n (o ++ [b])) := part_snoc HPO.out hfb
              obtain ⟨gz, offz, x, curz, tz, frz, rfl, hgz, hxz, hzb⟩ := ISl.at HZ.out b hbn
              have hgzl := (Array.getElem?_eq_some_iff.1 hgz).1
              have HCZ : Hid (∀ W, Below w.heap.size w W → W.cell? ⟨gz, offz + b, none⟩ = some (.int .i64 x)) := fun W hb => (cell_of_row _ _ _ _ _ _ ((hb.block gz hgzl).trans hgz)).trans hxz
              have hx2 : x ≤ 9223372036854775807 := HZX.out x (List.mem_of_getElem? hzb)
              have hsx := HSX.out b x hzb
              obtain ⟨s, hs⟩ : ∃ s, s = max x 0 := ⟨_, rfl⟩
              have hs0 : 0 ≤ s := by omega
              have hs3 : s ≤ 9223372036854775807 := by omega
              obtain ⟨c, hcd, _, hfr⟩ := SW.d.cell b hbn
              have S2 := SW.done hbn
              have K2 := SW.doneK b
              have hgd : w.heap.size ≤ gd := (SW.d.ge gd rfl).1
              have hgl : w.heap.size ≤ gl := (SW.l.ge gl rfl).1
              obtain ⟨w2, hw2⟩ : ∃ w2, w2 = wr.setCell ⟨gd, b, none⟩ (.bool true) := ⟨_, rfl⟩
              rw [← hw2] at S2 K2
              have B2 : Hid (Below w.heap.size w w2) := BW.out.trans (K2.below (fun i hi => by omega) BW.out.size)
              have hcz : w2.cell? ⟨gz, offz + b, none⟩ = some (.int .i64 x) := (cell_of_row _ _ _ _ _ _ ((B2.out.block gz hgzl).trans hgz)).trans hxz
              have DS : Hid (dealF th (wtT l) room (cntT th) SS (o ++ [b]) (fun _ => 0) (fun _ => (0, 0)) = if badG th (wtT l) room (cntT th) ld s then none else some (nextL th (wtT l) room ld s, fun j => if j = b then (oneOf th (wtT l) room ld s, twoOf th (wtT l) room ld s) else out j)) := by
                show _ = _
                rw [deal_app, HDF.out]
                show dealF th (wtT l) room (cntT th) SS [b] ld out = _
                rw [dealF, hsx, ← hs]
                rfl
              have G1 := GV.out th ld (.slice (some ⟨gt, 0, none⟩) 7 7) s 0 gl w.heap.size w2 B2.out S2.l S2.t.sl hs0 hs3 HLD.out
              have OK1 : okLd th room (ldUp ld (giveN th ld (wtT l) room s 0) s) := okLd_up HLD.out hs0
              have OK2 := okLd_up (wt := wtT l) (but := giveN th ld (wtT l) room s 0) OK1 hs0
              have ONE := fun h => giveN_in (th := th) (ld := ld) (wt := wtT l) (room := room) (size := s) (but := 0) (n := giveN th ld (wtT l) room s 0) rfl h
              have G2 := fun W hb h1 h2 => GV.out th (ldUp ld (giveN th ld (wtT l) room s 0) s) (.slice (some ⟨gt, 0, none⟩) 7 7) s (giveN th ld (wtT l) room s 0) gl w.heap.size W hb h1 h2 hs0 hs3 OK1
              have TWO := fun (h : giveN th ld (wtT l) room s 0 ≠ 0) (hc : cntT th ≤ 1) => two_none (ld := ldUp ld (giveN th ld (wtT l) room s 0) s) (wt := wtT l) (room := room) (s := s) hc (ONE h).1 (ONE h).2.1 (ONE h).2.2.1
              have SZX := fun W => SZ.out x W
              rw [← hs] at SZX
              have hbad : badG th (wtT l) room (cntT th) ld s = (giveN th ld (wtT l) room s 0 == 0 || (giveN th (ldUp ld (giveN th ld (wtT l) room s 0) s) (wtT l) room s (giveN th ld (wtT l) room s 0) == 0 && decide (1 < cntT th))) := rfl
              have hnx : nextL th (wtT l) room ld s = ldUp (ldUp ld (giveN th ld (wtT l) room s 0) s) (giveN th (ldUp ld (giveN th ld (wtT l) room s 0) s) (wtT l) room s (giveN th ld (wtT l) room s 0)) s := rfl
              have h1o : oneOf th (wtT l) room ld s = giveN th ld (wtT l) room s 0 := rfl
              have h2o : twoOf th (wtT l) room ld s = giveN th (ldUp ld (giveN th ld (wtT l) room s 0) s) (wtT l) room s (giveN th ld (wtT l) room s 0) := rfl
              rw [hbad, hnx, h1o, h2o] at DS
              clear hbad hnx h1o h2o
              generalize giveN th ld (wtT l) room s 0 = one at G1 OK1 OK2 ONE G2 DS TWO
              generalize giveN th (ldUp ld one s) (wtT l) room s one = two at G2 OK2 DS TWO
              have NONE : Hid (dealF th (wtT l) room (cntT th) SS (o ++ [b]) (fun _ => 0) (fun _ => (0, 0)) = none → ∃ t, IsOrd (fun i => -SS i) n t ∧ dealF th (wtT l) room (cntT th) SS t (fun _ => 0) (fun _ => (0, 0)) = none) := fun h => by
                obtain ⟨t, ht⟩ := part_full (n - (o ++ [b]).length) (o ++ [b]) PN.out (by have := part_len PN.out; omega)
                exact ⟨_, ht, by rw [deal_app, h]; rfl⟩
              clear hfb hgz hxz hzb hsx hs SW
              have G1' := G1
              rw [show ((0 : Nat) : Int) = 0 from rfl] at G1'
              go_upto_region 22 with fail
              rw [← hw2]
              clear hw2 hcd hfr G1
              go_wp2_with (first | (go_at_call 16; refine (SZX _).mono ?_; rintro e w9 ⟨rfl, h9⟩; rw [h9]; clear h9 w9) | (go_at_call 17; refine G1'.mono ?_; rintro e w3 ⟨rfl, hO3, hK3⟩; refine of_stopT ?_))
              unfold StopT
              have S3 : Hid (RdS w.heap.size w3 w.heap.size gd gl gt n out (o ++ [b]) (ldUp ld one s) th) := S2.load hK3 hO3
              have B3 : Hid (Below w.heap.size w w3) := B2.out.trans (hK3.below (fun i hi => by omega) B2.out.size)
              have hcz3 := HCZ.out w3 B3.out
              clear hO3 hK3 S2 K2 B2 hcz G1'
              by_cases hc : 1 < cc
              · have hc1 : decide ((1 : Int) < (cc : Int)) = true := by simp; omega
                have hc2 : decide (1 < cc) = true := by simpa using hc
                have hct : 1 < cntT th := by rw [← HCC.out]; exact hc
                by_cases h1 : one = 0
                · have h1a : decide ((0 : Int) < (one : Int)) = false := by simp; omega
                  have h1b : decide (0 < one) = false := by simp; omega
                  have h1c : ((one : Int) == 0) = true := by simp [h1]
                  have DN : Hid (dealF th (wtT l) room (cntT th) SS (o ++ [b]) (fun _ => 0) (fun _ => (0, 0)) = none) := by show _ = _; rw [DS.out, if_pos (by simp [h1])]
                  clear h1 DS
                  go_wp2_with fail
                  go_ret2
                  obtain ⟨t, ht, hd⟩ := NONE.out DN.out
                  refine ⟨⟨t, ht, ?_⟩, B3.out⟩
                  rw [← HTH.out, hd]
                  rfl
                · have h1a : decide ((0 : Int) < (one : Int)) = true := by simp; omega
                  have h1b : decide (0 < one) = true := by simp; omega
                  have h1c : ((one : Int) == 0) = false := by simp; omega
                  have g2 := G2 w3 B3.out S3.out.l S3.out.t.sl
                  go_wp2_with (first | (go_at_call 16; refine (SZX _).mono ?_; rintro e w9 ⟨rfl, h9⟩; rw [h9]; clear h9 w9) | (go_at_call 17; refine g2.mono ?_; rintro e w4 ⟨rfl, hO4, hK4⟩; refine of_stopT ?_))
                  unfold StopT
                  have S4 : Hid (RdS w.heap.size w4 w.heap.size gd gl gt n out (o ++ [b]) (ldUp (ldUp ld one s) two s) th) := S3.out.load hK4 hO4
                  have B4 : Hid (Below w.heap.size w w4) := B3.out.trans (hK4.below (fun i hi => by omega) B3.out.size)
                  clear hO4 hK4 S3 B3 hcz3 g2
                  by_cases h2 : two = 0
                  · have h2c : ((two : Int) == 0) = true := by simp [h2]
                    have DN : Hid (dealF th (wtT l) room (cntT th) SS (o ++ [b]) (fun _ => 0) (fun _ => (0, 0)) = none) := by show _ = _; rw [DS.out, if_pos (by simp [h2, hct])]
                    clear h1 DS
                    go_wp2_with fail
                    go_ret2
                    obtain ⟨t, ht, hd⟩ := NONE.out DN.out
                    refine ⟨⟨t, ht, ?_⟩, B4.out⟩
                    rw [← HTH.out, hd]
                    rfl
                  · have h2c : ((two : Int) == 0) = false := by simp; omega
                    have OKN : Hid (okLd th room (ldUp (ldUp ld one s) two s)) := OK2
                    obtain ⟨p0, _, cA, cB, hfr2⟩ := S4.out.p.cell b hbn
                    have fA := hfr2 (b * 2)
                    have fB := hfr2 (b * 2 + 1)
                    obtain ⟨hS7, hK7⟩ := S4.out.out hbn one two
                    have S7 : Hid (RdS w.heap.size ((w4.setCell ⟨w.heap.size, b * 2, none⟩ (.int .i64 (one : Int))).setCell ⟨w.heap.size, b * 2 + 1, none⟩ (.int .i64 (two : Nat))) w.heap.size gd gl gt n (fun j => if j = b then (one, two) else out j) (o ++ [b]) (ldUp (ldUp ld one s) two s) th) := hS7
                    have B7 : Hid (Below w.heap.size w ((w4.setCell ⟨w.heap.size, b * 2, none⟩ (.int .i64 (one : Int))).setCell ⟨w.heap.size, b * 2 + 1, none⟩ (.int .i64 (two : Nat)))) := B4.out.trans (hK7.below (fun i hi => by omega) B4.out.size)
                    have DN : Hid (dealF th (wtT l) room (cntT th) SS (o ++ [b]) (fun _ => 0) (fun _ => (0, 0)) = some ((ldUp (ldUp ld one s) two s), fun j => if j = b then (one, two) else out j)) := by show _ = _; rw [DS.out, if_neg (by simp [h1, h2])]
                    have LN : Hid ((o ++ [b]).length = k + 1) := by show _ = _; rw [List.length_append, HOL.out]; rfl
                    clear hS7 hK7 hfr2 DS h1
                    go_wp2_with fail
                    go_roundw
                    case rel => exact ⟨k + 1, o ++ [b], _, _, by omega, by go_num, LN, PN, OKN, S7, DN, B7⟩
                    case measure => simp [intOf]; omega
              · have hc1 : decide ((1 : Int) < (cc : Int)) = false := by simp; omega
                have hc2 : decide (1 < cc) = false := by simpa using hc
                have hct : ¬ 1 < cntT th := by rw [← HCC.out]; exact hc
                by_cases h1 : one = 0
                · have h1a : decide ((0 : Int) < (one : Int)) = false := by simp; omega
                  have h1b : decide (0 < one) = false := by simp; omega
                  have h1c : ((one : Int) == 0) = true := by simp [h1]
                  have DN : Hid (dealF th (wtT l) room (cntT th) SS (o ++ [b]) (fun _ => 0) (fun _ => (0, 0)) = none) := by show _ = _; rw [DS.out, if_pos (by simp [h1])]
                  clear h1 DS
                  go_wp2_with fail
                  go_ret2
                  obtain ⟨t, ht, hd⟩ := NONE.out DN.out
                  refine ⟨⟨t, ht, ?_⟩, B3.out⟩
                  rw [← HTH.out, hd]
                  rfl
                · have h1a : decide ((0 : Int) < (one : Int)) = true := by simp; omega
                  have h1b : decide (0 < one) = true := by simp; omega
                  have h1c : ((one : Int) == 0) = false := by simp; omega
                  have h2 : two = 0 := TWO h1 (by omega)
                  subst h2
                  have hup : ldUp (ldUp ld one s) 0 s = ldUp ld one s := by funext j; unfold ldUp; simp
                  have OKN : Hid (okLd th room (ldUp ld one s)) := OK1
                  obtain ⟨p0, _, cA, cB, hfr2⟩ := S3.out.p.cell b hbn
                  have fA := hfr2 (b * 2)
                  have fB := hfr2 (b * 2 + 1)
                  obtain ⟨hS7, hK7⟩ := S3.out.out hbn one 0
                  have S7 : Hid (RdS w.heap.size ((w3.setCell ⟨w.heap.size, b * 2, none⟩ (.int .i64 (one : Int))).setCell ⟨w.heap.size, b * 2 + 1, none⟩ (.int .i64 (0 : Nat))) w.heap.size gd gl gt n (fun j => if j = b then (one, 0) else out j) (o ++ [b]) (ldUp ld one s) th) := hS7
                  have B7 : Hid (Below w.heap.size w ((w3.setCell ⟨w.heap.size, b * 2, none⟩ (.int .i64 (one : Int))).setCell ⟨w.heap.size, b * 2 + 1, none⟩ (.int .i64 (0 : Nat)))) := B3.out.trans (hK7.below (fun i hi => by omega) B3.out.size)
                  have DN : Hid (dealF th (wtT l) room (cntT th) SS (o ++ [b]) (fun _ => 0) (fun _ => (0, 0)) = some ((ldUp ld one s), fun j => if j = b then (one, 0) else out j)) := by show _ = _; rw [DS.out, if_neg (by simp [h1, hct]), hup]
                  have LN : Hid ((o ++ [b]).length = k + 1) := by show _ = _; rw [List.length_append, HOL.out]; rfl
                  clear hup hS7 hK7 hfr2 DS h1
                  go_wp2_with fail
                  go_roundw
                  case rel => exact ⟨k + 1, o ++ [b], _, _, by omega, by go_num, LN, PN, OKN, S7, DN, B7⟩
                  case measure => simp [intOf]; omega
        · have hlt' : ¬ (k : Int) < (n : Int) := by omega
          obtain rfl : n = k := by omega
          have IO : Hid (IsOrd (fun i => -SS i) n o) := part_all HPO.out HOL.out
          go_wp2_with fail
          go_ret2
          refine ⟨⟨o, IO.out, ?_⟩, BX.out⟩
          rw [← HTH.out, HDF.out]
          exact ⟨_, rfl, SX.out.p⟩
end Go.Proofs.Ytdaoeabnjfaoiaa
namespace Go.Proofs.Ytdaoeabnjfaoiaa
open Go Go.Lib Go.RowKit
set_option maxRecDepth 20000

set_option maxRecDepth 1000000 in
theorem ex13 : (dealF (thT [1, 2, 3]) (wtT []) 9 (cntT (thT [1, 2, 3])) (fun i => max (([3, 5] : List Int).getD i 0) 0) [1, 0] (fun _ => 0) (fun _ => (0, 0))).map (fun st => (st.2 0, st.2 1)) = some ((3, 1), (1, 2)) := by kernel_rfl
theorem ex13_ord : IsOrd (keyZ [3, 5]) 2 [1, 0] := by
  refine ⟨fun i => by simp; omega, ?_⟩
  rw [List.pairwise_cons]
  refine ⟨fun j hj => ?_, by simp⟩
  obtain rfl : j = 0 := by simpa using hj
  left
  decide
end Go.Proofs.Ytdaoeabnjfaoiaa
namespace Go.Proofs.Ytdaoeabnjfaoiaa
open Go Go.Lib Go.RowKit
set_option maxRecDepth 20000

/-- Two pairs held against each other. -/
theorem eqP2 (p q : Int × Int) (w : World) : (Op.equalIn 10000 33 (.agg (pairV p)) (.agg (pairV q))).run Try.prog w = .ok ((p.1 == q.1) && ((p.2 == q.2) && true)) w := by
  have a3 : (isAgg 3).run Try.prog w = .ok false w := by kernel_rfl
  rw [run_equalIn_struct w 9999 33 _ _ Try.underlying33 (by kernel_rfl)]
  simp only [Program.fieldsOf, Try.underlying33]
  refine eqFields_step w (by decide) (part_cell w a3 (show (pairV p)[0]? = some (.int .i64 p.1) from rfl)) (part_cell w a3 (show (pairV q)[0]? = some (.int .i64 q.1) from rfl)) (run_equalIn_int w _ 3 .i64 .i64 _ _ Try.underlying3) ?_
  refine eqFields_step w (by decide) (part_cell w a3 (show (pairV p)[1]? = some (.int .i64 p.2) from rfl)) (part_cell w a3 (show (pairV q)[1]? = some (.int .i64 q.2) from rfl)) (run_equalIn_int w _ 3 .i64 .i64 _ _ Try.underlying3) ?_
  rfl
theorem eqP (p : Int × Int) (w : World) : (Op.equalIn 10000 33 (.agg (pairV p)) (.agg (pairV p))).run Try.prog w = .ok true w := by
  rw [eqP2]
  simp
theorem egP (op : BinOp) (x y : Operand) (xs ys : Array Value) (w : World) : (eqGuard op 33 x y (.agg xs) (.agg ys)).run Try.prog w = .ok () w :=
  run_eqGuard_agg w op 33 x y xs ys (by kernel_rfl)
set_option maxHeartbeats 8000000 in
theorem rsame13_any (C : List (Int × Int)) (va vb : Value) (w : World) (ha : PairsAt w va C) (hb : PairsAt w vb C) :
    Calls Try.prog 11 #[va, vb] w fun e w' => e = .returned (.bool true) ∧ Below w.heap.size w w' := by
  obtain ⟨oa, capa, rfl, hca, hma⟩ := GSl.slice ha
  obtain ⟨ob, capb, rfl, hcb, hmb⟩ := GSl.slice hb
  obtain ⟨n, hn⟩ : ∃ n, n = C.length := ⟨_, rfl⟩
  rw [← hn] at ha hb hca hcb ⊢
  have HA : Hid (PairsAt w (.slice oa n capa) C) := ha
  have HBB : Hid (PairsAt w (.slice ob n capb) C) := hb
  unfold maxLen at hma hmb
  clear ha hb hn
  go_enter Try.func11, Try.ntmps11
  go_wp2_with fail
  go_loopw [5] (fun i wr => ∃ k : Nat, k ≤ n ∧ i = .int .i64 (k : Int) ∧ Hid (Below w.heap.size w wr)) (fun i _ => n - (intOf i).toNat)
  case atStart => exact ⟨0, Nat.zero_le _, rfl, Below.refl _ _⟩
  case round =>
    obtain ⟨k, hk, rfl, HB⟩ := hrel
    by_cases hlt : k < n
    · have hlt' : (k : Int) < (n : Int) := by omega
      obtain ⟨g, off, cur, ty, fr, x, rfl, hg, hc, hxk⟩ := (GSl.below HA.out HB.out).at k hlt
      obtain ⟨g2, off2, cur2, ty2, fr2, y, rfl, hg2, hc2, hyk⟩ := (GSl.below HBB.out HB.out).at k hlt
      rw [hxk] at hyk
      obtain rfl := Option.some.inj hyk
      have e1 : ∀ w, (Op.equalIn 10000 33 (.agg (pairV x)) (.agg (pairV x))).run Try.prog w = .ok true w := eqP x
      have e2 : ∀ op p q w, (eqGuard op 33 p q (.agg (pairV x)) (.agg (pairV x))).run Try.prog w = .ok () w := fun op p q w => egP op p q _ _ w
      have K1 : Hid (wr.heap[g]? = some (.cells cur ty fr)) := hg
      have K2 : Hid (wr.heap[g2]? = some (.cells cur2 ty2 fr2)) := hg2
      have H1 : Hid (∀ i, i < 2 → cur[off + k * 2 + i]? = (pairV x)[i]?) := hc
      have H2 : Hid (∀ i, i < 2 → cur2[off2 + k * 2 + i]? = (pairV x)[i]?) := hc2
      clear hg hg2 hc hc2 hxk hyk
      go_wp2_with fail
      have ne1 := Later.ne wr
      refine wp_region_later (by kernel_rfl) (by kernel_rfl) ?_
      go_big_quiet_step (fail)
      go_big_quiet_step (fail)
      go_big_quiet_step (fail)
      refine qlE (E := PairE) PairOk rfl _ rfl g (off + k * 2) rfl cur ty fr (pairV x) rfl (later_block K1.out) H1.out ?_
      simp only [Act.put, List.setIfInBounds_toArray, List.set_cons_succ, List.set_cons_zero]
      go_big_quiet_step (fail)
      go_big_quiet_step (fail)
      go_big_quiet_step (fail)
      refine qlE (E := PairE) PairOk rfl _ rfl g2 (off2 + k * 2) rfl cur2 ty2 fr2 (pairV x) rfl (later_block K2.out) H2.out ?_
      simp only [Act.put, List.setIfInBounds_toArray, List.set_cons_succ, List.set_cons_zero]
      go_big_quiet_step (fail)
      refine wpQuiet_nil ?_
      rintro w1 ⟨v5, rfl⟩
      have B1 : Hid (Below w.heap.size w v5.world) := HB.out.trans (v5.below.mono HB.out.size)
      go_wp2_with fail
      go_roundw
      case rel => exact ⟨k + 1, by omega, by go_num, B1⟩
      case measure => simp [intOf]; omega
    · have hlt' : ¬ (k : Int) < (n : Int) := by omega
      go_wp2_with fail
      go_ret
      exact ⟨rfl, HB.out⟩
end Go.Proofs.Ytdaoeabnjfaoiaa
namespace Go.Proofs.Ytdaoeabnjfaoiaa
open Go Go.Lib Go.RowKit
set_option maxRecDepth 20000

theorem ex13_res : ∃ st, dealF (thT [1, 2, 3]) (wtT []) 9 (cntT (thT [1, 2, 3])) (fun i => max (([3, 5] : List Int).getD i 0) 0) [1, 0] (fun _ => 0) (fun _ => (0, 0)) = some st ∧ pairsT st.2 2 = [(3, 1), (1, 2)] := by
  have h := ex13
  cases hd : dealF (thT [1, 2, 3]) (wtT []) 9 (cntT (thT [1, 2, 3])) (fun i => max (([3, 5] : List Int).getD i 0) 0) [1, 0] (fun _ => 0) (fun _ => (0, 0)) with
  | none => rw [hd] at h; cases h
  | some st =>
    rw [hd] at h
    simp only [Option.map_some, Option.some.injEq, Prod.mk.injEq] at h
    refine ⟨st, rfl, ?_⟩
    show [(((st.2 0).1 : Int), ((st.2 0).2 : Int)), (((st.2 1).1 : Int), ((st.2 1).2 : Int))] = _
    rw [h.1, h.2]
    rfl
theorem isl_new {w : World} {g : Nat} {z : List Int} {t : TypeId} {fr : Nat × Nat} (hg : w.heap[g]? = some (.cells (inI z).toArray t fr)) (hm : z.length ≤ maxLen) : ISl w (.slice (some ⟨g, 0, none⟩) z.length z.length) z :=
  ⟨some ⟨g, 0, none⟩, z.length, by rw [inI_len], by rw [inI_len]; exact Nat.le_refl _, hm, (fun e => by cases e), fun i hi => ⟨g, 0, (inI z).toArray, t, fr, rfl, hg, by rw [Nat.zero_add]; simp [hi]⟩⟩
set_option maxHeartbeats 8000000 in
set_option maxRecDepth 100000 in
theorem awake13_any (w : World) : Calls Try.prog 8 #[] w fun e w' => e = .returned (.bool true) ∧ Below w.heap.size w w' := by
  obtain ⟨w2, hw2⟩ : ∃ w2, w2 = (w.alloc (.cells #[.int .i64 3, .int .i64 5] 3)).alloc (.cells #[.int .i64 1, .int .i64 2, .int .i64 3] 3) := ⟨_, rfl⟩
  have B2 : Hid (Below w.heap.size w w2) := by show Below _ _ _; rw [hw2]; exact ((Below.refl _ _).alloc (Nat.le_refl _) _).alloc (by simp) _
  have Z2 : ISl w2 (.slice (some ⟨w.heap.size, 0, none⟩) 2 2) [3, 5] := by
    have h : w2.heap[w.heap.size]? = some (.cells (inI [3, 5]).toArray 3 (0, 0)) := by rw [hw2]; exact heap_past _ _ _ _ (heap_new _ _ _ rfl)
    exact isl_new h (by unfold maxLen; simp)
  have L2 : ISl w2 (.slice (some ⟨w.heap.size + 1, 0, none⟩) 3 3) [1, 2, 3] := by
    have h : w2.heap[w.heap.size + 1]? = some (.cells (inI [1, 2, 3]).toArray 3 (0, 0)) := by rw [hw2]; exact heap_new _ _ _ (by simp)
    exact isl_new h (by unfold maxLen; simp)
  have DE : Hid (Calls Try.prog 9 #[.slice (some ⟨w.heap.size, 0, none⟩) 2 2, .slice (some ⟨w.heap.size + 1, 0, none⟩) 3 3, .slice none 0 0, .int .i64 9] w2 fun e w' => (∃ v, e = .returned (.tuple #[v, .int .i64 0]) ∧ POwn w2.heap.size w' v [(3, 1), (1, 2)]) ∧ Below w2.heap.size w2 w') := by
    refine (deal_any [3, 5] [1, 2, 3] (by simp) [] (fun x hx => by simp at hx) 9 (by omega) (by omega) (fun x hx => by simp at hx; omega) _ _ _ w2 Z2 L2 (vsl_nil w2)).mono ?_
    rintro e w' ⟨⟨o, ho, hr⟩, hb⟩
    have hoe : o = [1, 0] := ord_one ho ex13_ord
    subst hoe
    obtain ⟨st, hst, hp⟩ := ex13_res
    rw [hst] at hr
    obtain ⟨v, he, hv⟩ := hr
    rw [show ([3, 5] : List Int).length = 2 from rfl, hp] at hv
    exact ⟨⟨v, he, hv⟩, hb⟩
  have e1 : ∀ W, (Op.equalIn 10000 33 (.agg #[.int .i64 3, .int .i64 1]) (.agg #[.int .i64 3, .int .i64 1])).run Try.prog W = .ok true W := eqP (3, 1)
  have e2 : ∀ W, (Op.equalIn 10000 33 (.agg #[.int .i64 1, .int .i64 2]) (.agg #[.int .i64 1, .int .i64 2])).run Try.prog W = .ok true W := eqP (1, 2)
  have e3 : ∀ op p q xs ys w, (eqGuard op 33 p q (.agg xs) (.agg ys)).run Try.prog w = .ok () w := fun op p q xs ys w => egP op p q xs ys w
  have W2 : Hid (w2 = _) := hw2
  clear Z2 L2 hw2
  go_enter Try.func8, Try.ntmps8
  go_wp2_with (first | (go_at_call 9; rw [← W2.out]; refine DE.out.mono ?_; rintro e w3 ⟨⟨v, rfl, hv⟩, hb3⟩; refine of_stopT ?_))
  unfold StopT
  have B3 : Hid (Below w.heap.size w w3) := B2.out.trans (hb3.mono B2.out.size)
  obtain ⟨o, cap, rfl, hc1, hc2⟩ := GSl.slice (POwn.at_ hv)
  obtain ⟨g, off, cur, t, fr, p, rfl, hg, hc, hp⟩ := (POwn.at_ hv).at 0 (by simp)
  obtain ⟨g', off', cur', t', fr', p', he', hg', hc', hp'⟩ := (POwn.at_ hv).at 1 (by simp)
  simp only [Option.some.injEq, Addr.mk.injEq, and_true] at he'
  obtain ⟨rfl, rfl⟩ := he'
  obtain rfl : ((3, 1) : Int × Int) = p := Option.some.inj hp
  obtain rfl : ((1, 2) : Int × Int) = p' := Option.some.inj hp'
  have c0 : w3.cell? ⟨g, off, none⟩ = some (.int .i64 3) := (cell_of_row _ _ _ _ _ _ hg).trans (hc 0 (by show 0 < 2; omega))
  have c1 : w3.cell? ⟨g, off + 1, none⟩ = some (.int .i64 1) := (cell_of_row _ _ _ _ _ _ hg).trans (hc 1 (by show 1 < 2; omega))
  have c2 : w3.cell? ⟨g, off + 2, none⟩ = some (.int .i64 1) := (cell_of_row _ _ _ _ _ _ hg').trans (hc' 0 (by show 0 < 2; omega))
  have c3 : w3.cell? ⟨g, off + 2 + 1, none⟩ = some (.int .i64 2) := (cell_of_row _ _ _ _ _ _ hg').trans (hc' 1 (by show 1 < 2; omega))
  have c4 : w3.cell? ⟨g, off + 3, none⟩ = some (.int .i64 2) := c3
  unfold maxLen at hc2
  simp only [List.length_cons, List.length_nil] at hc1 ⊢
  clear hv hb3 hg hc hp hg' hc' hp'
  go_wp2_with fail
  go_ret
  exact ⟨rfl, B3.out⟩
end Go.Proofs.Ytdaoeabnjfaoiaa
