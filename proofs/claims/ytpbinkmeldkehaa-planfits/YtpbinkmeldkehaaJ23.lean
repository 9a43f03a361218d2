import Derived.Test.YtpbinkmeldkehaaJ15
import Derived.Deep.CutRange
import Derived.Test.YtpbinkmeldkehaaJ8
import Derived.Test.YtpbinkmeldkehaaJ22
namespace Go.Proofs.Ytpbinkmeldkehaa
open Go Go.Lib Go.RowKit
set_option maxRecDepth 20000

set_option maxHeartbeats 16000000 in
set_option maxRecDepth 100000 in
theorem rdeal_any (z live : List Int) (hn : z.length ≤ 1000) (hlv : live.length ≤ 1000) (l : List Nat) (hW : AllW l) (room : Int) (hr1 : -9223372036854775808 ≤ room) (hr2 : room ≤ 9223372036854775807) (hz2 : ∀ x ∈ z, x ≤ 9223372036854775807) (vz vl vw : Value) (w : World) (hz : ISl w vz z) (hl : ISl w vl live) (hw : FSl w vw l) :
    Calls Try.prog 41 #[vz, vl, vw, .int .i64 room] w fun e w' => (∃ o, IsOrd (fun i => -max (z.getD i 0) 0) z.length o ∧ dealR w w' z.length (dealF (thT live) (wtT l) room (cntT (thT live)) (fun i => max (z.getD i 0) 0) o (fun _ => 0) (fun _ => (0, 0))) e) ∧ Below w.heap.size w w' := by
  obtain ⟨SS, hSS⟩ : ∃ SS : Nat → Int, SS = fun i => max (z.getD i 0) 0 := ⟨_, rfl⟩
  have HSX : Hid (∀ (i : Nat) (x : Int), z[i]? = some x → SS i = max x 0) := fun i x h => by rw [hSS]; show max (z.getD i 0) 0 = _; rw [List.getD, h]; rfl
  have hKK : (fun i => -max (z.getD i 0) 0) = fun i => -SS i := by rw [hSS]
  rw [hKK, ← hSS]
  clear hKK hSS
  have SZ : Hid (∀ (x : Int) W, Calls Try.prog 51 #[.int .i64 x] W fun e w' => e = .returned (.int .i64 (max x 0)) ∧ w' = W) := fun x W => size_any x W
  have GV : Hid (∀ (th : Nat → Bool) (ld : Nat → Int) (vt : Value) (s : Int) (but gl B : Nat) W, Below w.heap.size w W → VOwn 3 B W (.slice (some ⟨gl, 0, none⟩) 7 7) (lV ld) → VSl W vt (tV th) → 0 ≤ s → s ≤ 9223372036854775807 → okLd th room ld → Calls Try.prog 52 #[.slice (some ⟨gl, 0, none⟩) 7 7, vt, vw, .int .i64 room, .int .i64 s, .int .i64 (but : Int)] W fun e w' => e = .returned (.int .i64 (giveN th ld (wtT l) room s but : Nat)) ∧ VOwn 3 B w' (.slice (some ⟨gl, 0, none⟩) 7 7) (lV (ldUp ld (giveN th ld (wtT l) room s but) s)) ∧ Kept (fun k => k = gl) W w') := fun th ld vt s but gl B W hb h1 h2 h3 h4 h5 => rgive_any th ld l hW vw vt room s but gl B W h1 h2 (VSl.below hw hb) hr1 hr2 h3 h4 h5
  obtain ⟨oz, cz, rfl, hz3, hz4⟩ := hz.slice
  obtain ⟨ov, cvv, rfl, hv3, hv4⟩ := hl.slice
  unfold maxLen at hz4 hv4
  obtain ⟨n, hn0⟩ : ∃ n, n = z.length := ⟨_, rfl⟩
  obtain ⟨nv, hnv⟩ : ∃ nv, nv = live.length := ⟨_, rfl⟩
  have HNV : Hid (nv = live.length) := hnv
  have HZX : Hid (∀ x ∈ z, x ≤ 9223372036854775807) := hz2
  rw [← hn0] at hz hz3 hn ⊢
  rw [← hnv] at hl hv3 hlv ⊢
  have HZ : Hid (ISl w (.slice oz n cz) z) := hz
  have HV : Hid (ISl w (.slice ov nv cvv) live) := hl
  clear hz hl hw hW hn0 hnv hz2
  go_enter Try.func41, Try.ntmps41
  go_wp2_with (first | (refine wl_makeP rfl _ _ rfl n rfl rfl (by omega) ?_; intro w1 ho1 hb1; refine of_stopT ?_))
  unfold StopT
  have hs1 : w.heap.size < w1.heap.size := (World.ownsRow.lt ho1 _ rfl).2
  go_wp2_with (first | (refine wl_makeV scB rfl _ _ rfl n rfl rfl (by omega) ?_; intro w2 ho2 hb2; refine of_stopT ?_))
  unfold StopT
  have hs2 : w1.heap.size < w2.heap.size := (ho2.ge _ rfl).2
  go_wp2_with (first | (refine wl_makeV scI rfl _ _ rfl 7 rfl rfl (by omega) ?_; intro w3 ho3 hb3; refine of_stopT ?_))
  unfold StopT
  have hs3 : w2.heap.size < w3.heap.size := (ho3.ge _ rfl).2
  go_wp2_with (first | (refine wl_makeV scB rfl _ _ rfl 7 rfl rfl (by omega) ?_; intro w4 ho4 hb4; refine of_stopT ?_))
  unfold StopT
  have b13 : Below w1.heap.size w1 w4 := hb2.trans ((hb3.trans (hb4.mono hb3.size)).mono hb2.size)
  have b24 : Below w2.heap.size w2 w4 := hb3.trans (hb4.mono hb3.size)
  have BW4 : Hid (Below w.heap.size w w4) := hb1.trans (b13.mono hb1.size)
  have S4 : Hid (RdS w.heap.size w4 w.heap.size w1.heap.size w2.heap.size w3.heap.size n (fun _ => (0, 0)) [] (fun _ => 0) (thT (live.take 0))) :=
    ⟨by rw [pairs_zero]; exact gown_below ho1 b13, by rw [dV_nil]; exact ((ho2.below b24).base (by omega)), by rw [lV_zero]; exact (ho3.below hb4).base (by omega), by rw [tV_none (thT (live.take 0)) (fun _ _ _ => rfl)]; exact ho4.base (by omega), hs1, hs2, hs3, Nat.le_refl _⟩
  clear ho1 ho2 ho3 ho4 hb1 hb2 hb3 hb4 b13 b24
  generalize w1.heap.size = gd at *
  generalize w2.heap.size = gl at *
  generalize w3.heap.size = gt at *
  have C0 : cntT (thT (live.take 0)) = 0 := rfl
  go_wp2_with fail
  go_loopw [14, 15] (fun vc vi wr => ∃ k : Nat, k ≤ nv ∧ vi = .int .i64 (k : Int) ∧ vc = .int .i64 (cntT (thT (live.take k)) : Nat) ∧ Hid (RdS w.heap.size wr w.heap.size gd gl gt n (fun _ => (0, 0)) [] (fun _ => 0) (thT (live.take k))) ∧ Hid (Below w.heap.size w wr)) (fun _ vi _ => nv - (intOf vi).toNat)
  case atStart => exact ⟨0, Nat.zero_le _, rfl, by rw [C0]; rfl, S4, BW4⟩
  case round =>
    clear S4 BW4 C0
    obtain ⟨k, hk, rfl, rfl, SX, BX⟩ := hrel
    by_cases hlt : k < nv
    · have hlt' : (k : Int) < (nv : Int) := by omega
      obtain ⟨gv, offv, x, curv, tv, frv, rfl, hgv, hxv, hvk⟩ := ISl.at HV.out k hlt
      have hcx : wr.cell? ⟨gv, offv + k, none⟩ = some (.int .i64 x) := (cell_of_row _ _ _ _ _ _ ((BX.out.block gv (Array.getElem?_eq_some_iff.1 hgv).1).trans hgv)).trans hxv
      clear hgv hxv
      by_cases h1 : 1 ≤ x
      · have h1' : decide (x ≥ 1) = true := by simpa using h1
        have h1'' : decide (1 ≤ x) = true := by simpa using h1
        by_cases h6 : x ≤ 6
        · have h6' : decide (x ≤ 6) = true := by simpa using h6
          obtain ⟨m, rfl⟩ := Int.eq_ofNat_of_zero_le (show 0 ≤ x by omega)
          have hm7 : (m : Int) < 7 := by omega
          obtain ⟨c, hct, htm, hfr⟩ := SX.out.t.cell m (by omega)
          rw [tV_at _ (by omega) (by omega)] at htm
          obtain rfl : Value.bool (thT (live.take k) m) = c := Option.some.inj htm
          cases hth : thT (live.take k) m with
          | true =>
            rw [hth] at hct
            have SN : Hid (RdS w.heap.size wr w.heap.size gd gl gt n (fun _ => (0, 0)) [] (fun _ => 0) (thT (live.take (k + 1)))) := SX.out.congr (th_same hvk hth)
            have CC : Hid (Value.int .i64 (cntT (thT (live.take k)) : Nat) = .int .i64 (cntT (thT (live.take (k + 1))) : Nat)) := by show _ = _; rw [cnt_congr (th_same hvk hth)]
            generalize cntT (thT (live.take k)) = cc at CC ⊢
            clear hth htm SX
            go_wp2_with fail
            go_roundw
            case rel => exact ⟨k + 1, by omega, by go_num, CC.out, SN, BX⟩
            case measure => simp [intOf]; omega
          | false =>
            rw [hth] at hct
            obtain ⟨hS, hK⟩ := SX.out.there (m := m) (by omega) (by omega)
            have SN : Hid (RdS w.heap.size (wr.setCell ⟨gt, m, none⟩ (.bool true)) w.heap.size gd gl gt n (fun _ => (0, 0)) [] (fun _ => 0) (thT (live.take (k + 1)))) := hS.congr (th_more hvk)
            have hgt : w.heap.size ≤ gt := (SX.out.t.ge gt rfl).1
            have BX2 : Hid (Below w.heap.size w (wr.setCell ⟨gt, m, none⟩ (.bool true))) := BX.out.trans (hK.below (fun j hj => by omega) BX.out.size)
            have hcn : cntT (thT (live.take (k + 1))) = cntT (thT (live.take k)) + 1 := by rw [← cnt_congr (th_more hvk), cnt_upd _ m (by omega) (by omega), hth]; rfl
            have CC : Hid (cntT (thT (live.take (k + 1))) = cntT (thT (live.take k)) + 1) := hcn
            have hcl := cnt_le (thT (live.take k))
            generalize cntT (thT (live.take k)) = cc at CC hcl ⊢
            clear hth htm SX hS hK hcn
            go_wp2_with fail
            go_roundw
            case rel => exact ⟨k + 1, by omega, by go_num, by rw [CC.out]; go_num, SN, BX2⟩
            case measure => simp [intOf]; omega
        · have h6' : decide (x ≤ 6) = false := by simpa using h6
          have SN : Hid (RdS w.heap.size wr w.heap.size gd gl gt n (fun _ => (0, 0)) [] (fun _ => 0) (thT (live.take (k + 1)))) := SX.out.congr (th_odd hvk (.inr (by omega)))
          have CC : Hid (Value.int .i64 (cntT (thT (live.take k)) : Nat) = .int .i64 (cntT (thT (live.take (k + 1))) : Nat)) := by show _ = _; rw [cnt_congr (th_odd hvk (.inr (by omega)))]
          generalize cntT (thT (live.take k)) = cc at CC ⊢
          clear SX
          go_wp2_with fail
          go_roundw
          case rel => exact ⟨k + 1, by omega, by go_num, CC.out, SN, BX⟩
          case measure => simp [intOf]; omega
      · have h1' : decide (x ≥ 1) = false := by simpa using h1
        have h1'' : decide (1 ≤ x) = false := by simpa using h1
        have SN : Hid (RdS w.heap.size wr w.heap.size gd gl gt n (fun _ => (0, 0)) [] (fun _ => 0) (thT (live.take (k + 1)))) := SX.out.congr (th_odd hvk (.inl (by omega)))
        have CC : Hid (Value.int .i64 (cntT (thT (live.take k)) : Nat) = .int .i64 (cntT (thT (live.take (k + 1))) : Nat)) := by show _ = _; rw [cnt_congr (th_odd hvk (.inl (by omega)))]
        generalize cntT (thT (live.take k)) = cc at CC ⊢
        clear SX
        go_wp2_with fail
        go_roundw
        case rel => exact ⟨k + 1, by omega, by go_num, CC.out, SN, BX⟩
        case measure => simp [intOf]; omega
    · have hlt' : ¬ (k : Int) < (nv : Int) := by omega
      have htk : live.take k = live := List.take_of_length_le (by have := HNV.out; omega)
      rw [htk] at SX ⊢
      obtain ⟨th, hth⟩ : ∃ th, th = thT live := ⟨_, rfl⟩
      have HTH : Hid (th = thT live) := hth
      rw [← hth] at SX ⊢
      have P0 : Hid (PartOrd (fun i => -SS i) n []) := part_nil _ _
      have OK0 : Hid (okLd th room (fun _ => 0)) := fun k _ _ _ => ⟨Int.le_refl _, by show (0 : Int) ≤ max room 0; omega⟩
      have D0 : Hid (dealF th (wtT l) room (cntT th) SS [] (fun _ => 0) (fun _ => (0, 0)) = some ((fun _ => 0), (fun _ => (0, 0)))) := rfl
      obtain ⟨cc, hcc⟩ : ∃ cc, cc = cntT th := ⟨_, rfl⟩
      have HCC : Hid (cc = cntT th) := hcc
      have hcl := cnt_le th
      rw [← hcc] at hcl ⊢
      clear hcc hth htk hlt hk HV
      go_wp2_with fail
      go_loopw [16] (fun vk wx => ∃ (k : Nat) (o : List Nat) (ld : Nat → Int) (out : Nat → Nat × Nat), k ≤ n ∧ vk = .int .i64 (k : Int) ∧ Hid (o.length = k) ∧ Hid (PartOrd (fun i => -SS i) n o) ∧ Hid (okLd th room ld) ∧ Hid (RdS w.heap.size wx w.heap.size gd gl gt n out o ld th) ∧ Hid (dealF th (wtT l) room (cntT th) SS o (fun _ => 0) (fun _ => (0, 0)) = some (ld, out)) ∧ Hid (Below w.heap.size w wx)) (fun vk _ => n - (intOf vk).toNat)
      case atStart => exact ⟨0, [], _, _, Nat.zero_le _, rfl, rfl, P0, OK0, SX, D0, BX⟩
      case round =>
        clear P0 OK0 D0 SX BX
        obtain ⟨k, o, ld, out, hk, rfl, HOL, HPO, HLD, SX, HDF, BX⟩ := hrel
        obtain ⟨wo, hwo⟩ : ∃ wo : World, wo = wr := ⟨_, rfl⟩
        rw [← hwo] at SX BX ⊢
        clear hwo
        by_cases hlt : k < n
        · have hlt' : (k : Int) < (n : Int) := by omega
          go_wp2_with fail
          go_loopw [17, 18] (fun va vi wx => ∃ (j : Nat) (av : Int), j ≤ n ∧ vi = .int .i64 (j : Int) ∧ va = .int .i64 av ∧ Hid ((av = -1 ∧ ∀ i, i < j → i ∈ o) ∨ ∃ b : Nat, av = (b : Int) ∧ IsFirst (fun i => -SS i) o j b) ∧ Hid (Below wo.heap.size wo wx)) (fun _ vi _ => n - (intOf vi).toNat)
          case atStart => exact ⟨0, -1, Nat.zero_le _, rfl, rfl, .inl ⟨rfl, fun i hi => by omega⟩, Below.refl _ _⟩
          case round =>
            obtain ⟨j, av, hj, rfl, rfl, HA, HX⟩ := hrel
            have BW : Hid (Below w.heap.size w wr) := BX.out.trans (HX.out.mono BX.out.size)
            have SW := SX.out.below HX.out
            by_cases hjn : j < n
            · have hjn' : (j : Int) < (n : Int) := by omega
              obtain ⟨g5, off5, c, he5, ⟨cur5, t5, fr5, hg5, hc5⟩, hd5⟩ := SW.d.sl.row j hjn
              simp only [Option.some.injEq, Addr.mk.injEq, and_true] at he5
              obtain ⟨rfl, rfl⟩ := he5
              rw [dV_at _ hjn] at hd5
              obtain rfl : Value.bool (decide (j ∈ o)) = c := Option.some.inj hd5
              obtain ⟨gz, offz, x, curz, tz, frz, rfl, hgz, hxz, hzj⟩ := ISl.at HZ.out j hjn
              have hgz2 := (BW.out.block gz (Array.getElem?_eq_some_iff.1 hgz).1).trans hgz
              have ex : ∀ v : Later wr, v.world.cell? ⟨gz, offz + j, none⟩ = some (.int .i64 x) := fun v => (cell_of_row _ _ _ _ _ _ (later_block hgz2 _ ⟨v, rfl⟩)).trans hxz
              have ed0 : ∀ v : Later wr, v.world.cell? ⟨gd, 0 + j, none⟩ = some (.bool (decide (j ∈ o))) := fun v => (cell_of_row _ _ _ _ _ _ (later_block hg5 _ ⟨v, rfl⟩)).trans hc5
              rw [Nat.zero_add] at ed0
              have hsx := HSX.out j x hzj
              have ne1 := Later.ne wr
              by_cases hjo : j ∈ o
              · have ed : ∀ v : Later wr, v.world.cell? ⟨gd, j, none⟩ = some (.bool true) := by rw [show decide (j ∈ o) = true by simpa using hjo] at ed0; exact ed0
                have HN : Hid ((av = -1 ∧ ∀ i, i < j + 1 → i ∈ o) ∨ ∃ b : Nat, av = (b : Int) ∧ IsFirst (fun i => -SS i) o (j + 1) b) := by
                  rcases HA.out with ⟨h1, h2⟩ | ⟨b, h1, h2⟩
                  · refine .inl ⟨h1, fun i hi => ?_⟩
                    by_cases e : i = j
                    · rw [e]; exact hjo
                    · exact h2 i (by omega)
                  · exact .inr ⟨b, h1, first_skip h2 (.inl hjo)⟩
                clear ed0 hgz hxz hzj hgz2 hg5 hc5 hd5 hjo hsx HA SW
                go_wp2_with fail
                refine wp_region_later (by kernel_rfl) (by kernel_rfl) ?_
                repeat go_big_quiet_step (fail)
                refine wpQuiet_nil ?_
                rintro w3 ⟨v5, rfl⟩
                have hb3 := v5.below
                obtain ⟨w3, hw3⟩ : ∃ w3, w3 = v5.world := ⟨_, rfl⟩
                rw [← hw3] at hb3 ⊢
                have B3 : Hid (Below wo.heap.size wo w3) := HX.out.trans (hb3.mono HX.out.size)
                clear hb3 hw3 v5 ne1 ed ex
                go_wp2_with fail
                go_roundw
                case rel => exact ⟨j + 1, av, by omega, by go_num, rfl, HN, B3⟩
                case measure => simp [intOf]; omega
              · have ed : ∀ v : Later wr, v.world.cell? ⟨gd, j, none⟩ = some (.bool false) := by rw [show decide (j ∈ o) = false by simpa using hjo] at ed0; exact ed0
                rcases HA.out with ⟨rfl, h2⟩ | ⟨b, rfl, h2⟩
                · have HN : Hid (((j : Int) = -1 ∧ ∀ i, i < j + 1 → i ∈ o) ∨ ∃ b : Nat, (j : Int) = (b : Int) ∧ IsFirst (fun i => -SS i) o (j + 1) b) := .inr ⟨j, rfl, first_begin hjo h2⟩
                  clear ed0 hgz hxz hzj hgz2 hg5 hc5 hd5 hjo hsx HA SW h2
                  go_wp2_with fail
                  refine wp_region_later (by kernel_rfl) (by kernel_rfl) ?_
                  repeat go_big_quiet_step (fail)
                  refine wpQuiet_nil ?_
                  rintro w3 ⟨v5, rfl⟩
                  have hb3 := v5.below
                  obtain ⟨w3, hw3⟩ : ∃ w3, w3 = v5.world := ⟨_, rfl⟩
                  rw [← hw3] at hb3 ⊢
                  have B3 : Hid (Below wo.heap.size wo w3) := HX.out.trans (hb3.mono HX.out.size)
                  clear hb3 hw3 v5 ne1 ed ex
                  go_wp2_with fail
                  go_roundw
                  case rel => exact ⟨j + 1, (j : Int), by omega, by go_num, rfl, HN, B3⟩
                  case measure => simp [intOf]; omega
                · have hbn : b < n := Nat.lt_of_lt_of_le h2.1 (by omega)
                  have hbn' : (b : Int) < (n : Int) := by omega
                  obtain ⟨gz', offz', xb, curz', tz', frz', he6, hgz', hxb, hzb⟩ := ISl.at HZ.out b hbn
                  simp only [Option.some.injEq, Addr.mk.injEq, and_true] at he6
                  obtain ⟨rfl, rfl⟩ := he6
                  have hgz3 := (BW.out.block gz (Array.getElem?_eq_some_iff.1 hgz').1).trans hgz'
                  have eb : ∀ v : Later wr, v.world.cell? ⟨gz, offz + b, none⟩ = some (.int .i64 xb) := fun v => (cell_of_row _ _ _ _ _ _ (later_block hgz3 _ ⟨v, rfl⟩)).trans hxb
                  have hsb := HSX.out b xb hzb
                  have hb0 : decide ((b : Int) < 0) = false := by simp
                  by_cases hgt : max xb 0 < max x 0
                  · have hgt' : decide (max xb 0 < max x 0) = true := by simpa using hgt
                    have HN : Hid (((j : Int) = -1 ∧ ∀ i, i < j + 1 → i ∈ o) ∨ ∃ b : Nat, (j : Int) = (b : Int) ∧ IsFirst (fun i => -SS i) o (j + 1) b) := .inr ⟨j, rfl, first_take h2 hjo (by show -SS j < -SS b; rw [hsx, hsb]; omega)⟩
                    clear ed0 hgz hxz hzj hgz2 hg5 hc5 hd5 hjo hsx HA SW h2 hgz' hxb hzb hgz3 hsb
                    generalize hmx : max x 0 = mx at *
                    generalize hmb : max xb 0 = mb at *
                    have SZ1 : Hid (∀ W, Calls Try.prog 51 #[.int .i64 x] W fun e w' => e = .returned (.int .i64 mx) ∧ w' = W) := fun W => by have h := SZ.out x W; rw [hmx] at h; exact h
                    have SZ2 : Hid (∀ W, Calls Try.prog 51 #[.int .i64 xb] W fun e w' => e = .returned (.int .i64 mb) ∧ w' = W) := fun W => by have h := SZ.out xb W; rw [hmb] at h; exact h
                    clear hmx hmb hgt
                    go_wp2_with fail
                    refine wp_region_later (by kernel_rfl) (by kernel_rfl) ?_
                    repeat go_big_quiet_step (fail)
                    go_big_quiet_want; go_big_quiet_op
                    refine ⟨_, fun u => Calls.later_of ((SZ1.out u.world).mono fun e w' h => ⟨h.1, by rw [h.2]; exact Below.refl _ _⟩), ?_⟩
                    go_big_quiet_on
                    repeat go_big_quiet_step (fail)
                    go_big_quiet_want; go_big_quiet_op
                    refine ⟨_, fun u => Calls.later_of ((SZ2.out u.world).mono fun e w' h => ⟨h.1, by rw [h.2]; exact Below.refl _ _⟩), ?_⟩
                    go_big_quiet_on
                    repeat go_big_quiet_step (fail)
                    refine wpQuiet_nil ?_
                    rintro w3 ⟨v5, rfl⟩
                    have hb3 := v5.below
                    obtain ⟨w3, hw3⟩ : ∃ w3, w3 = v5.world := ⟨_, rfl⟩
                    rw [← hw3] at hb3 ⊢
                    have B3 : Hid (Below wo.heap.size wo w3) := HX.out.trans (hb3.mono HX.out.size)
                    clear eb hb3 hw3 v5 ne1 ed ex
                    go_wp2_with fail
                    go_roundw
                    case rel => exact ⟨j + 1, (j : Int), by omega, by go_num, rfl, HN, B3⟩
                    case measure => simp [intOf]; omega
                  · have hgt' : decide (max xb 0 < max x 0) = false := by simpa using hgt
                    have HN : Hid (((b : Int) = -1 ∧ ∀ i, i < j + 1 → i ∈ o) ∨ ∃ c : Nat, (b : Int) = (c : Int) ∧ IsFirst (fun i => -SS i) o (j + 1) c) := .inr ⟨b, rfl, first_skip h2 (.inr (by show ¬ -SS j < -SS b; rw [hsx, hsb]; omega))⟩
                    clear ed0 hgz hxz hzj hgz2 hg5 hc5 hd5 hjo hsx HA SW h2 hgz' hxb hzb hgz3 hsb
                    generalize hmx : max x 0 = mx at *
                    generalize hmb : max xb 0 = mb at *
                    have SZ1 : Hid (∀ W, Calls Try.prog 51 #[.int .i64 x] W fun e w' => e = .returned (.int .i64 mx) ∧ w' = W) := fun W => by have h := SZ.out x W; rw [hmx] at h; exact h
                    have SZ2 : Hid (∀ W, Calls Try.prog 51 #[.int .i64 xb] W fun e w' => e = .returned (.int .i64 mb) ∧ w' = W) := fun W => by have h := SZ.out xb W; rw [hmb] at h; exact h
                    clear hmx hmb hgt
                    go_wp2_with fail
                    refine wp_region_later (by kernel_rfl) (by kernel_rfl) ?_
                    repeat go_big_quiet_step (fail)
                    go_big_quiet_want; go_big_quiet_op
                    refine ⟨_, fun u => Calls.later_of ((SZ1.out u.world).mono fun e w' h => ⟨h.1, by rw [h.2]; exact Below.refl _ _⟩), ?_⟩
                    go_big_quiet_on
                    repeat go_big_quiet_step (fail)
                    go_big_quiet_want; go_big_quiet_op
                    refine ⟨_, fun u => Calls.later_of ((SZ2.out u.world).mono fun e w' h => ⟨h.1, by rw [h.2]; exact Below.refl _ _⟩), ?_⟩
                    go_big_quiet_on
                    repeat go_big_quiet_step (fail)
                    refine wpQuiet_nil ?_
                    rintro w3 ⟨v5, rfl⟩
                    have hb3 := v5.below
                    obtain ⟨w3, hw3⟩ : ∃ w3, w3 = v5.world := ⟨_, rfl⟩
                    rw [← hw3] at hb3 ⊢
                    have B3 : Hid (Below wo.heap.size wo w3) := HX.out.trans (hb3.mono HX.out.size)
                    clear eb hb3 hw3 v5 ne1 ed ex
                    go_wp2_with fail
                    go_roundw
                    case rel => exact ⟨j + 1, (b : Int), by omega, by go_num, rfl, HN, B3⟩
                    case measure => simp [intOf]; omega
            · have hjn' : ¬ (j : Int) < (n : Int) := by omega
              obtain rfl : n = j := by omega
              obtain ⟨b, rfl, hfb⟩ : ∃ b : Nat, av = (b : Int) ∧ IsFirst (fun i => -SS i) o n b := by
                rcases HA.out with ⟨_, h⟩ | h
                · obtain ⟨i, hi, hio⟩ := part_more (n := n) (o := o) (by have := HOL.out; omega)
                  exact absurd (h i hi) hio
                · exact h
              have hbn : b < n := hfb.1
              have hbn' : (b : Int) < (n : Int) := by omega
              have PN : Hid (PartOrd (fun i => -SS i) n (o ++ [b])) := part_snoc HPO.out hfb
              obtain ⟨gz, offz, x, curz, tz, frz, rfl, hgz, hxz, hzb⟩ := ISl.at HZ.out b hbn
              have hgzl := (Array.getElem?_eq_some_iff.1 hgz).1
              have HCZ : Hid (∀ W, Below w.heap.size w W → W.cell? ⟨gz, offz + b, none⟩ = some (.int .i64 x)) := fun W hb => (cell_of_row _ _ _ _ _ _ ((hb.block gz hgzl).trans hgz)).trans hxz
              have hx2 : x ≤ 9223372036854775807 := HZX.out x (List.mem_of_getElem? hzb)
              have hsx := HSX.out b x hzb
              obtain ⟨s, hs⟩ : ∃ s, s = max x 0 := ⟨_, rfl⟩
              have hs0 : 0 ≤ s := by omega
              have hs3 : s ≤ 9223372036854775807 := by omega
              obtain ⟨c, hcd, _, hfr⟩ := SW.d.cell b hbn
              have S2 := SW.done hbn
              have K2 := SW.doneK b
              have hgd : w.heap.size ≤ gd := (SW.d.ge gd rfl).1
              have hgl : w.heap.size ≤ gl := (SW.l.ge gl rfl).1
              obtain ⟨w2, hw2⟩ : ∃ w2, w2 = wr.setCell ⟨gd, b, none⟩ (.bool true) := ⟨_, rfl⟩
              rw [← hw2] at S2 K2
              have B2 : Hid (Below w.heap.size w w2) := BW.out.trans (K2.below (fun i hi => by omega) BW.out.size)
              have hcz : w2.cell? ⟨gz, offz + b, none⟩ = some (.int .i64 x) := (cell_of_row _ _ _ _ _ _ ((B2.out.block gz hgzl).trans hgz)).trans hxz
              have DS : Hid (dealF th (wtT l) room (cntT th) SS (o ++ [b]) (fun _ => 0) (fun _ => (0, 0)) = if badG th (wtT l) room (cntT th) ld s then none else some (nextL th (wtT l) room ld s, fun j => if j = b then (oneOf th (wtT l) room ld s, twoOf th (wtT l) room ld s) else out j)) := by
                show _ = _
                rw [deal_app, HDF.out]
                show dealF th (wtT l) room (cntT th) SS [b] ld out = _
                rw [dealF, hsx, ← hs]
                rfl
              have G1 := GV.out th ld (.slice (some ⟨gt, 0, none⟩) 7 7) s 0 gl w.heap.size w2 B2.out S2.l S2.t.sl hs0 hs3 HLD.out
              have OK1 : okLd th room (ldUp ld (giveN th ld (wtT l) room s 0) s) := okLd_up HLD.out hs0
              have OK2 := okLd_up (wt := wtT l) (but := giveN th ld (wtT l) room s 0) OK1 hs0
              have ONE := fun h => giveN_in (th := th) (ld := ld) (wt := wtT l) (room := room) (size := s) (but := 0) (n := giveN th ld (wtT l) room s 0) rfl h
              have G2 := fun W hb h1 h2 => GV.out th (ldUp ld (giveN th ld (wtT l) room s 0) s) (.slice (some ⟨gt, 0, none⟩) 7 7) s (giveN th ld (wtT l) room s 0) gl w.heap.size W hb h1 h2 hs0 hs3 OK1
              have TWO := fun (h : giveN th ld (wtT l) room s 0 ≠ 0) (hc : cntT th ≤ 1) => two_none (ld := ldUp ld (giveN th ld (wtT l) room s 0) s) (wt := wtT l) (room := room) (s := s) hc (ONE h).1 (ONE h).2.1 (ONE h).2.2.1
              have SZX := fun W => SZ.out x W
              rw [← hs] at SZX
              have hbad : badG th (wtT l) room (cntT th) ld s = (giveN th ld (wtT l) room s 0 == 0 || (giveN th (ldUp ld (giveN th ld (wtT l) room s 0) s) (wtT l) room s (giveN th ld (wtT l) room s 0) == 0 && decide (1 < cntT th))) := rfl
              have hnx : nextL th (wtT l) room ld s = ldUp (ldUp ld (giveN th ld (wtT l) room s 0) s) (giveN th (ldUp ld (giveN th ld (wtT l) room s 0) s) (wtT l) room s (giveN th ld (wtT l) room s 0)) s := rfl
              have h1o : oneOf th (wtT l) room ld s = giveN th ld (wtT l) room s 0 := rfl
              have h2o : twoOf th (wtT l) room ld s = giveN th (ldUp ld (giveN th ld (wtT l) room s 0) s) (wtT l) room s (giveN th ld (wtT l) room s 0) := rfl
              rw [hbad, hnx, h1o, h2o] at DS
              clear hbad hnx h1o h2o
              generalize giveN th ld (wtT l) room s 0 = one at G1 OK1 OK2 ONE G2 DS TWO
              generalize giveN th (ldUp ld one s) (wtT l) room s one = two at G2 OK2 DS TWO
              have NONE : Hid (dealF th (wtT l) room (cntT th) SS (o ++ [b]) (fun _ => 0) (fun _ => (0, 0)) = none → ∃ t, IsOrd (fun i => -SS i) n t ∧ dealF th (wtT l) room (cntT th) SS t (fun _ => 0) (fun _ => (0, 0)) = none) := fun h => by
                obtain ⟨t, ht⟩ := part_full (n - (o ++ [b]).length) (o ++ [b]) PN.out (by have := part_len PN.out; omega)
                exact ⟨_, ht, by rw [deal_app, h]; rfl⟩
              clear hfb hgz hxz hzb hsx hs SW
              have G1' := G1
              rw [show ((0 : Nat) : Int) = 0 from rfl] at G1'
              go_upto_region 22 with fail
              rw [← hw2]
              clear hw2 hcd hfr G1
              go_wp2_with (first | (go_at_call 51; refine (SZX _).mono ?_; rintro e w9 ⟨rfl, h9⟩; rw [h9]; clear h9 w9) | (go_at_call 52; refine G1'.mono ?_; rintro e w3 ⟨rfl, hO3, hK3⟩; refine of_stopT ?_))
              unfold StopT
              have S3 : Hid (RdS w.heap.size w3 w.heap.size gd gl gt n out (o ++ [b]) (ldUp ld one s) th) := S2.load hK3 hO3
              have B3 : Hid (Below w.heap.size w w3) := B2.out.trans (hK3.below (fun i hi => by omega) B2.out.size)
              have hcz3 := HCZ.out w3 B3.out
              clear hO3 hK3 S2 K2 B2 hcz G1'
              by_cases hc : 1 < cc
              · have hc1 : decide ((1 : Int) < (cc : Int)) = true := by simp; omega
                have hc2 : decide (1 < cc) = true := by simpa using hc
                have hct : 1 < cntT th := by rw [← HCC.out]; exact hc
                by_cases h1 : one = 0
                · have h1a : decide ((0 : Int) < (one : Int)) = false := by simp; omega
                  have h1b : decide (0 < one) = false := by simp; omega
                  have h1c : ((one : Int) == 0) = true := by simp [h1]
                  have DN : Hid (dealF th (wtT l) room (cntT th) SS (o ++ [b]) (fun _ => 0) (fun _ => (0, 0)) = none) := by show _ = _; rw [DS.out, if_pos (by simp [h1])]
                  clear h1 DS
                  go_wp2_with fail
                  go_ret2
                  obtain ⟨t, ht, hd⟩ := NONE.out DN.out
                  refine ⟨⟨t, ht, ?_⟩, B3.out⟩
                  rw [← HTH.out, hd]
                  rfl
                · have h1a : decide ((0 : Int) < (one : Int)) = true := by simp; omega
                  have h1b : decide (0 < one) = true := by simp; omega
                  have h1c : ((one : Int) == 0) = false := by simp; omega
                  have g2 := G2 w3 B3.out S3.out.l S3.out.t.sl
                  go_wp2_with (first | (go_at_call 51; refine (SZX _).mono ?_; rintro e w9 ⟨rfl, h9⟩; rw [h9]; clear h9 w9) | (go_at_call 52; refine g2.mono ?_; rintro e w4 ⟨rfl, hO4, hK4⟩; refine of_stopT ?_))
                  unfold StopT
                  have S4 : Hid (RdS w.heap.size w4 w.heap.size gd gl gt n out (o ++ [b]) (ldUp (ldUp ld one s) two s) th) := S3.out.load hK4 hO4
                  have B4 : Hid (Below w.heap.size w w4) := B3.out.trans (hK4.below (fun i hi => by omega) B3.out.size)
                  clear hO4 hK4 S3 B3 hcz3 g2
                  by_cases h2 : two = 0
                  · have h2c : ((two : Int) == 0) = true := by simp [h2]
                    have DN : Hid (dealF th (wtT l) room (cntT th) SS (o ++ [b]) (fun _ => 0) (fun _ => (0, 0)) = none) := by show _ = _; rw [DS.out, if_pos (by simp [h2, hct])]
                    clear h1 DS
                    go_wp2_with fail
                    go_ret2
                    obtain ⟨t, ht, hd⟩ := NONE.out DN.out
                    refine ⟨⟨t, ht, ?_⟩, B4.out⟩
                    rw [← HTH.out, hd]
                    rfl
                  · have h2c : ((two : Int) == 0) = false := by simp; omega
                    have OKN : Hid (okLd th room (ldUp (ldUp ld one s) two s)) := OK2
                    obtain ⟨p0, _, cA, cB, hfr2⟩ := S4.out.p.cell b hbn
                    have fA := hfr2 (b * 2)
                    have fB := hfr2 (b * 2 + 1)
                    obtain ⟨hS7, hK7⟩ := S4.out.out hbn one two
                    have S7 : Hid (RdS w.heap.size ((w4.setCell ⟨w.heap.size, b * 2, none⟩ (.int .i64 (one : Int))).setCell ⟨w.heap.size, b * 2 + 1, none⟩ (.int .i64 (two : Nat))) w.heap.size gd gl gt n (fun j => if j = b then (one, two) else out j) (o ++ [b]) (ldUp (ldUp ld one s) two s) th) := hS7
                    have B7 : Hid (Below w.heap.size w ((w4.setCell ⟨w.heap.size, b * 2, none⟩ (.int .i64 (one : Int))).setCell ⟨w.heap.size, b * 2 + 1, none⟩ (.int .i64 (two : Nat)))) := B4.out.trans (hK7.below (fun i hi => by omega) B4.out.size)
                    have DN : Hid (dealF th (wtT l) room (cntT th) SS (o ++ [b]) (fun _ => 0) (fun _ => (0, 0)) = some ((ldUp (ldUp ld one s) two s), fun j => if j = b then (one, two) else out j)) := by show _ = _; rw [DS.out, if_neg (by simp [h1, h2])]
                    have LN : Hid ((o ++ [b]).length = k + 1) := by show _ = _; rw [List.length_append, HOL.out]; rfl
                    clear hS7 hK7 hfr2 DS h1
                    go_wp2_with fail
                    go_roundw
                    case rel => exact ⟨k + 1, o ++ [b], _, _, by omega, by go_num, LN, PN, OKN, S7, DN, B7⟩
                    case measure => simp [intOf]; omega
              · have hc1 : decide ((1 : Int) < (cc : Int)) = false := by simp; omega
                have hc2 : decide (1 < cc) = false := by simpa using hc
                have hct : ¬ 1 < cntT th := by rw [← HCC.out]; exact hc
                by_cases h1 : one = 0
                · have h1a : decide ((0 : Int) < (one : Int)) = false := by simp; omega
                  have h1b : decide (0 < one) = false := by simp; omega
                  have h1c : ((one : Int) == 0) = true := by simp [h1]
                  have DN : Hid (dealF th (wtT l) room (cntT th) SS (o ++ [b]) (fun _ => 0) (fun _ => (0, 0)) = none) := by show _ = _; rw [DS.out, if_pos (by simp [h1])]
                  clear h1 DS
                  go_wp2_with fail
                  go_ret2
                  obtain ⟨t, ht, hd⟩ := NONE.out DN.out
                  refine ⟨⟨t, ht, ?_⟩, B3.out⟩
                  rw [← HTH.out, hd]
                  rfl
                · have h1a : decide ((0 : Int) < (one : Int)) = true := by simp; omega
                  have h1b : decide (0 < one) = true := by simp; omega
                  have h1c : ((one : Int) == 0) = false := by simp; omega
                  have h2 : two = 0 := TWO h1 (by omega)
                  subst h2
                  have hup : ldUp (ldUp ld one s) 0 s = ldUp ld one s := by funext j; unfold ldUp; simp
                  have OKN : Hid (okLd th room (ldUp ld one s)) := OK1
                  obtain ⟨p0, _, cA, cB, hfr2⟩ := S3.out.p.cell b hbn
                  have fA := hfr2 (b * 2)
                  have fB := hfr2 (b * 2 + 1)
                  obtain ⟨hS7, hK7⟩ := S3.out.out hbn one 0
                  have S7 : Hid (RdS w.heap.size ((w3.setCell ⟨w.heap.size, b * 2, none⟩ (.int .i64 (one : Int))).setCell ⟨w.heap.size, b * 2 + 1, none⟩ (.int .i64 (0 : Nat))) w.heap.size gd gl gt n (fun j => if j = b then (one, 0) else out j) (o ++ [b]) (ldUp ld one s) th) := hS7
                  have B7 : Hid (Below w.heap.size w ((w3.setCell ⟨w.heap.size, b * 2, none⟩ (.int .i64 (one : Int))).setCell ⟨w.heap.size, b * 2 + 1, none⟩ (.int .i64 (0 : Nat)))) := B3.out.trans (hK7.below (fun i hi => by omega) B3.out.size)
                  have DN : Hid (dealF th (wtT l) room (cntT th) SS (o ++ [b]) (fun _ => 0) (fun _ => (0, 0)) = some ((ldUp ld one s), fun j => if j = b then (one, 0) else out j)) := by show _ = _; rw [DS.out, if_neg (by simp [h1, hct]), hup]
                  have LN : Hid ((o ++ [b]).length = k + 1) := by show _ = _; rw [List.length_append, HOL.out]; rfl
                  clear hup hS7 hK7 hfr2 DS h1
                  go_wp2_with fail
                  go_roundw
                  case rel => exact ⟨k + 1, o ++ [b], _, _, by omega, by go_num, LN, PN, OKN, S7, DN, B7⟩
                  case measure => simp [intOf]; omega
        · have hlt' : ¬ (k : Int) < (n : Int) := by omega
          obtain rfl : n = k := by omega
          have IO : Hid (IsOrd (fun i => -SS i) n o) := part_all HPO.out HOL.out
          go_wp2_with fail
          go_ret2
          refine ⟨⟨o, IO.out, ?_⟩, BX.out⟩
          rw [← HTH.out, HDF.out]
          exact ⟨_, rfl, SX.out.p⟩
end Go.Proofs.Ytpbinkmeldkehaa
namespace Go.Proofs.Ytpbinkmeldkehaa
open Go Go.Lib Go.RowKit
set_option maxRecDepth 20000

/-! Setups; plan.Right and the reference's. -/
structure Stp where
  sw : Int
  au : Int
  ca : Int
  ro : Int
  pa : Int
  idl : Int
  hd : Int
  gr : Int
  bi : Nat
  wi : Int
  qu : Int
  wa : Int
  tr : Int
  ti : Int
  be : Int
  le : Int
  lo : Int
def stA (s : Stp) : Array Value := #[.int .i64 s.sw, .int .i64 s.au, .int .i64 s.ca, .int .i64 s.ro, .int .i64 s.pa, .int .i64 s.idl, .int .i64 s.hd, .int .i64 s.gr, .float .f64 s.bi, .int .i64 s.wi, .int .i64 s.qu, .int .i64 s.wa, .int .i64 s.tr, .int .i64 s.ti, .int .i64 s.be, .int .i64 s.le, .int .i64 s.lo]
def inT (n a b : Int) : Bool := decide (n ≥ a) && decide (n ≤ b)
set_option maxHeartbeats 2000000 in
theorem between_any (n a b : Int) (w : World) : Calls Try.prog 25 #[.int .i64 n, .int .i64 a, .int .i64 b] w fun e w' => e = .returned (.bool (inT n a b)) ∧ Below w.heap.size w w' := by
  by_cases h1 : n ≥ a
  · have h1' : decide (n ≥ a) = true := by simpa using h1
    have hi : Hid (inT n a b = decide (n ≤ b)) := by show _ = _; unfold inT; rw [h1']; rfl
    go_enter Try.func25, Try.ntmps25
    go_wp2_with fail
    go_ret
    exact ⟨by rw [hi.out]; rfl, Below.refl _ _⟩
  · have h1' : decide (n ≥ a) = false := by simpa using h1
    have hi : Hid (inT n a b = false) := by show _ = _; unfold inT; rw [h1']; rfl
    go_enter Try.func25, Try.ntmps25
    go_wp2_with fail
    go_ret
    exact ⟨by rw [hi.out]; rfl, Below.refl _ _⟩
set_option maxHeartbeats 2000000 in
theorem half_any (n : Int) (h0 : -9223372036854775808 ≤ n) (h1 : n ≤ 9223372036854775807) (w : World) : Calls Try.prog 30 #[.int .i64 n] w fun e w' => e = .returned (.int .i64 (n.tdiv 2)) ∧ Below w.heap.size w w' := by
  go_enter Try.func30, Try.ntmps30
  go_wp2_with fail
  go_ret
  exact ⟨rfl, Below.refl _ _⟩
theorem st_cells {s : Stp} {w : World} {g : Nat} {t : TypeId} {fr : Nat × Nat} (h : w.heap[g]? = some (.cells (stA s) t fr)) : w.cell? ⟨g, 0, none⟩ = some (.int .i64 s.sw) ∧ w.cell? ⟨g, 1, none⟩ = some (.int .i64 s.au) ∧ w.cell? ⟨g, 2, none⟩ = some (.int .i64 s.ca) ∧ w.cell? ⟨g, 3, none⟩ = some (.int .i64 s.ro) ∧ w.cell? ⟨g, 4, none⟩ = some (.int .i64 s.pa) ∧ w.cell? ⟨g, 5, none⟩ = some (.int .i64 s.idl) ∧ w.cell? ⟨g, 6, none⟩ = some (.int .i64 s.hd) ∧ w.cell? ⟨g, 7, none⟩ = some (.int .i64 s.gr) ∧ w.cell? ⟨g, 8, none⟩ = some (.float .f64 s.bi) ∧ w.cell? ⟨g, 9, none⟩ = some (.int .i64 s.wi) ∧ w.cell? ⟨g, 10, none⟩ = some (.int .i64 s.qu) ∧ w.cell? ⟨g, 11, none⟩ = some (.int .i64 s.wa) ∧ w.cell? ⟨g, 12, none⟩ = some (.int .i64 s.tr) ∧ w.cell? ⟨g, 13, none⟩ = some (.int .i64 s.ti) ∧ w.cell? ⟨g, 14, none⟩ = some (.int .i64 s.be) ∧ w.cell? ⟨g, 15, none⟩ = some (.int .i64 s.le) ∧ w.cell? ⟨g, 16, none⟩ = some (.int .i64 s.lo) := by
  refine ⟨?_, ?_, ?_, ?_, ?_, ?_, ?_, ?_, ?_, ?_, ?_, ?_, ?_, ?_, ?_, ?_, ?_⟩ <;> exact (cell_of_row _ _ _ _ _ _ h).trans rfl
theorem st_new (s : Stp) (w : World) (t : TypeId) : (w.alloc (.cells (stA s) t)).heap[w.heap.size]? = some (.cells (stA s) t (0, 0)) := heap_new _ _ _ rfl
/-- A struct that no slice is made of. -/
structure Ag where
  elem : TypeId
  size : Nat
structure Ag.Ok (E : Ag) : Prop where
  hu : ∃ d, Try.prog.underlying E.elem = some d ∧ (match d with | .struct _ | .array _ _ => true | _ => false) = true
  hi : (Try.prog.info? E.elem).map (fun i => i.size) = some E.size
theorem Ag.Ok.load {E : Ag} (H : E.Ok) (w : World) (g off : Nat) (cur : Array Value) (t : TypeId) (fr : Nat × Nat) (cs : Array Value) (hcs : cs.size = E.size) (hg : w.heap[g]? = some (.cells cur t fr)) (hc : ∀ j, j < E.size → cur[off + j]? = cs[j]?) :
    (loadVar E.elem ⟨g, off, none⟩).run Try.prog w = .ok (.agg cs) w := by
  have hl : (loadCells ⟨g, off, none⟩ cs.toList.length).run Try.prog w = .ok cs.toList.toArray w :=
    run_loadCells_list (P := Try.prog) w ⟨g, off, none⟩ cs.toList (fun j v hv => by
      have hadd : (⟨g, off, none⟩ : Addr).add j = ⟨g, off + j, none⟩ := by unfold Addr.add; split <;> simp_all
      have hj : j < E.size := by
        have := (List.getElem?_eq_some_iff.1 hv).1
        rw [Array.length_toList] at this
        omega
      rw [hadd, cell_of_row w g (off + j) cur t fr hg, hc j hj]
      simpa using hv)
  obtain ⟨i, hq, hs⟩ : ∃ i, Try.prog.info? E.elem = some i ∧ i.size = E.size := by
    have h1 := H.hi
    cases h : Try.prog.info? E.elem with
    | none => rw [h] at h1; simp at h1
    | some i => rw [h] at h1; exact ⟨i, rfl, by simpa using h1⟩
  have hagg : (isAgg E.elem).run Try.prog w = .ok true w := by
    obtain ⟨d, hd, hm⟩ := H.hu
    unfold isAgg
    rw [Sem.run_bind, run_underlying hd w]
    revert hm
    cases d <;> simp [go_sem]
  rw [Array.length_toList, hcs, Array.toArray_toList] at hl
  simp [loadVar, Sem.run_bind, hagg, sizeOf, typeInfo, hq, hs, hl]
theorem wl_loadA {E : Ag} (H : E.Ok) {ops : Array Oper} {rest : List Oper} {o : Oper} {a : Act} {w : World} {Q : Exit → Act → World → Prop} (hw : Region.wanted o (yielded ops a.tmps) = true) (x : Operand) (ho : o.op = .load E.elem x)
    (g off : Nat) (hx : a.eval x = .pointer (some ⟨g, off, none⟩)) (cur : Array Value) (t : TypeId) (fr : Nat × Nat) (cs : Array Value) (hcs : cs.size = E.size) (hg : w.heap[g]? = some (.cells cur t fr)) (hc : ∀ j, j < E.size → cur[off + j]? = cs[j]?)
    (h : wpList Try.prog ops Q rest (a.put o.dst (.agg cs)) w) : wpList Try.prog ops Q (o :: rest) a w := by
  refine wpList_step fun K hK => ?_
  rw [if_pos hw]
  unfold Oper.wp execOp
  simp only [ho, hx, Instr.loadAt, Instr.sureAddr, Sem.run_bind, Sem.run_pure, Result.andThen_ok, H.load w g off cur t fr cs hcs hg hc]
  exact hK _ _ h
theorem wl_storeA {E : Ag} (H : E.Ok) {ops : Array Oper} {rest : List Oper} {o : Oper} {a : Act} {w : World} {Q : Exit → Act → World → Prop} (hgd : o.guard = none) (x y : Operand) (ho : o.op = .store E.elem x y)
    (g : Nat) (cs : Array Value) (hf : cs.size = E.size ∧ cs.all (·.oneCell') = true) (hx : a.eval x = .pointer (some ⟨g, 0, none⟩)) (hy : a.eval y = .agg cs) (old : Array Value) (hg : w.heap[g]? = some (.cells old E.elem (0, 0))) (hold : old.size = E.size)
    (w' : World) (hw' : w.setRow g cs = w')
    (h : wpList Try.prog ops Q rest (a.put o.dst undef) w') : wpList Try.prog ops Q (o :: rest) a w :=
  wpList_store_row hgd E.elem x y ho g cs hx hy E.elem old hg (by rw [hf.1]; exact H.hi) (by rw [hf.1, hold]) hf.2 (by rw [hw']; exact h)
def StpG : Ag := ⟨24, 17⟩
theorem StpOk : StpG.Ok := ⟨⟨_, Try.underlying24, rfl⟩, by kernel_rfl⟩
theorem st_fits (s : Stp) : (stA s).size = 17 ∧ (stA s).all (·.oneCell') = true := by
  refine ⟨rfl, ?_⟩
  unfold stA
  simp [Value.oneCell']
def stZ : Array Value := #[.int .i64 0, .int .i64 0, .int .i64 0, .int .i64 0, .int .i64 0, .int .i64 0, .int .i64 0, .int .i64 0, .float .f64 0, .int .i64 0, .int .i64 0, .int .i64 0, .int .i64 0, .int .i64 0, .int .i64 0, .int .i64 0, .int .i64 0]
end Go.Proofs.Ytpbinkmeldkehaa
