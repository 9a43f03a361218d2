import Derived.Test.YtdaoeabnjfaoiaaJ11
namespace Go.Proofs.Ytdaoeabnjfaoiaa
open Go Go.Lib Go.RowKit
set_option maxRecDepth 20000

/-! The reference's Size and Give. -/
theorem size_any (x : Int) (w : World) : Calls Try.prog 16 #[.int .i64 x] w fun e w' => e = .returned (.int .i64 (max x 0)) ∧ w' = w := by
  by_cases h : x < 0
  · have h' : decide (x < 0) = true := by simpa using h
    have hm : max x 0 = 0 := by omega
    rw [hm]
    go_enter Try.func16, Try.ntmps16
    go_wp2_with fail
    go_ret
    exact ⟨rfl, rfl⟩
  · have h' : decide (x < 0) = false := by simpa using h
    have hm : max x 0 = x := by omega
    rw [hm]
    go_enter Try.func16, Try.ntmps16
    go_wp2_with fail
    go_ret
    exact ⟨rfl, rfl⟩
def lV (ld : Nat → Int) : List Value := (List.range 7).map fun i => Value.int .i64 (ld i)
def tV (th : Nat → Bool) : List Value := (List.range 7).map fun i => Value.bool (if i = 0 then false else th i)
theorem lV_at (ld : Nat → Int) {n : Nat} (h : n < 7) : (lV ld)[n]? = some (.int .i64 (ld n)) := by unfold lV; rw [List.getElem?_map, List.getElem?_range h]; rfl
theorem tV_at (th : Nat → Bool) {n : Nat} (h1 : 1 ≤ n) (h : n < 7) : (tV th)[n]? = some (.bool (th n)) := by unfold tV; rw [List.getElem?_map, List.getElem?_range h, Option.map_some, if_neg (by omega)]
theorem lV_set (ld : Nat → Int) {m : Nat} (h : m < 7) (hm : m ≠ 0) (s : Int) : (lV ld).set m (.int .i64 (ld m + s)) = lV (ldUp ld m s) := by
  apply List.ext_getElem?
  intro j
  unfold lV ldUp
  rw [List.getElem?_set]
  by_cases e : m = j
  · subst e
    rw [if_pos rfl]
    simp [h, hm]
  · rw [if_neg e]
    by_cases hj : j < 7
    · simp [hj, show ¬ j = m from fun x => e x.symm]
    · simp [hj]
set_option maxHeartbeats 8000000 in
theorem rgive_any (th : Nat → Bool) (ld : Nat → Int) (l : List Nat) (hW : AllW l) (vw vt : Value) (room s : Int) (but : Nat) (gl B : Nat) (w : World) (hO : VOwn 3 B w (.slice (some ⟨gl, 0, none⟩) 7 7) (lV ld)) (hT : VSl w vt (tV th)) (hL : FSl w vw l)
    (hr1 : -9223372036854775808 ≤ room) (hr2 : room ≤ 9223372036854775807) (hs0 : 0 ≤ s) (hs3 : s ≤ 9223372036854775807) (hld : okLd th room ld) :
    Calls Try.prog 17 #[.slice (some ⟨gl, 0, none⟩) 7 7, vt, vw, .int .i64 room, .int .i64 s, .int .i64 (but : Int)] w fun e w' => e = .returned (.int .i64 (giveN th ld (wtT l) room s but : Nat)) ∧ VOwn 3 B w' (.slice (some ⟨gl, 0, none⟩) 7 7) (lV (ldUp ld (giveN th ld (wtT l) room s but) s)) ∧ Kept (fun k => k = gl) w w' := by
  obtain ⟨GG, hGG⟩ : ∃ GG : Nat → Option (Nat × Nat), GG = giveGo th ld (wtT l) room s but := ⟨_, rfl⟩
  have STEP : Hid (∀ n : Nat, 1 ≤ n → GG n = if mayG th ld room s but n then
      (match GG (n - 1) with
      | none => some (n, costT (ld n + s) (wtT l n))
      | some (m, y) => if placeT (costT (ld n + s) (wtT l n)) < placeT y then some (n, costT (ld n + s) (wtT l n)) else some (m, y))
    else GG (n - 1)) := fun n h => by rw [hGG]; exact give_step h
  have G0 : Hid (GG 0 = none) := by show _ = _; rw [hGG, giveGo]
  have GIN : Hid (∀ k n x : Nat, GG k = some (n, x) → 1 ≤ n ∧ n ≤ k ∧ mayG th ld room s but n = true ∧ Wd x) := fun k n x h => by
    rw [hGG] at h
    obtain ⟨h1, h2, h3, h4⟩ := giveGo_in h
    exact ⟨h1, h2, h3, by rw [h4]; exact costT_wd _ _⟩
  have RES : Hid (giveN th ld (wtT l) room s but = gI (GG 6)) := by show _ = _; rw [hGG, giveN]
  have CO : Hid (∀ (v : Nat) W (a : Int), Wd v → a ≤ 9223372036854775807 → Calls Try.prog 24 #[.int .i64 a, .float .f64 v] W fun e w' => e = .returned (.float .f64 (costT a v)) ∧ w' = W) := fun v W a hv ha => rcost_any a v ha hv W
  have LS : Hid (∀ (x y : Nat) W, Wd x → Wd y → Calls Try.prog 25 #[.float .f64 x, .float .f64 y] W fun e w' => e = .returned (.bool (decide (placeT x < placeT y))) ∧ w' = W) := fun x y W h1 h2 => rless_any x y h1 h2 W
  have WW : Hid (∀ n, Wd (wtT l n)) := fun n => wt_wd hW n
  obtain ⟨ow, cw, rfl, hw1, hw2⟩ := hL.slice
  obtain ⟨ot, ct, rfl, ht1, ht2⟩ := VSl.slice hT
  have htl : (tV th).length = 7 := by simp [tV]
  rw [htl] at hT ht1 ⊢
  unfold maxLen at hw2 ht2
  obtain ⟨lw, hlw⟩ : ∃ lw, lw = l.length := ⟨_, rfl⟩
  have HLW : Hid (lw = l.length) := hlw
  rw [← hlw] at hL hw1 ⊢
  have HLD : Hid (okLd th room ld) := hld
  have HO : Hid (VOwn 3 B w (.slice (some ⟨gl, 0, none⟩) 7 7) (lV ld)) := hO
  have HT : Hid (VSl w (.slice ot 7 ct) (tV th)) := hT
  have HL : Hid (FSl w (.slice ow lw cw) l) := hL
  rw [RES.out]
  clear hGG hO hT hL hld RES hW hlw htl
  go_enter Try.func17, Try.ntmps17
  go_wp2_with fail
  go_loopw [13, 14, 15] (fun v7 v8 v9 wr => ∃ n : Nat, 1 ≤ n ∧ n ≤ 7 ∧ v9 = .int .i64 (n : Int) ∧ v7 = .int .i64 (gI (GG (n - 1)) : Nat) ∧ v8 = .float .f64 (gX (GG (n - 1))) ∧ wr = w) (fun _ _ v9 _ => 7 - (intOf v9).toNat)
  case atStart => exact ⟨1, by omega, by omega, rfl, by rw [show (1 : Nat) - 1 = 0 from rfl, G0.out]; rfl, by rw [show (1 : Nat) - 1 = 0 from rfl, G0.out]; rfl, rfl⟩
  case round =>
    obtain ⟨n, hn1, hn7, rfl, rfl, rfl, rfl⟩ := hrel
    by_cases hle : n ≤ 6
    · have hle' : (n : Int) ≤ 6 := by omega
      have hn7' : (n : Int) < 7 := by omega
      have hnn : n + 1 - 1 = n := by omega
      obtain ⟨gt, offt, c, rfl, hct, htn⟩ := HT.out.at n (by omega)
      rw [tV_at th hn1 (by omega)] at htn
      obtain rfl : Value.bool (th n) = c := Option.some.inj htn
      obtain ⟨c2, hcl, hln, _⟩ := HO.out.cell n (by omega)
      rw [lV_at ld (by omega)] at hln
      obtain rfl : Value.int .i64 (ld n) = c2 := Option.some.inj hln
      clear htn hln
      cases hth : th n with
      | false =>
        rw [hth] at hct
        have HE : Hid (GG (n + 1 - 1) = GG (n - 1)) := by
          show _ = _
          rw [hnn, STEP.out n hn1, if_neg (by unfold mayG; rw [hth]; simp)]
        clear hth
        go_wp2_with fail
        go_roundw
        case rel => exact ⟨n + 1, by omega, by omega, by go_num, by rw [HE.out], by rw [HE.out], trivial⟩
        case measure => simp [intOf]; omega
      | true =>
        rw [hth] at hct
        obtain ⟨hx0, hx1⟩ := HLD.out n hn1 hle hth
        by_cases hbut : n = but
        · have hb1 : ((n : Int) == (but : Int)) = true := by simp; omega
          have HE : Hid (GG (n + 1 - 1) = GG (n - 1)) := by
            show _ = _
            rw [hnn, STEP.out n hn1, if_neg (by unfold mayG; simp [hbut])]
          generalize ld n = x at *
          clear hth hbut
          go_wp2_with fail
          go_roundw
          case rel => exact ⟨n + 1, by omega, by omega, by go_num, by rw [HE.out], by rw [HE.out], trivial⟩
          case measure => simp [intOf]; omega
        · have hb1 : ((n : Int) == (but : Int)) = false := by simp; omega
          by_cases hr : room < 0
          · have hr' : decide (room < 0) = true := by simpa using hr
            have HE : Hid (GG (n + 1 - 1) = GG (n - 1)) := by
              show _ = _
              rw [hnn, STEP.out n hn1, if_neg (by unfold mayG; simp [show room - ld n < s by omega])]
            generalize ld n = x at *
            clear hth hbut
            go_wp2_with fail
            go_roundw
            case rel => exact ⟨n + 1, by omega, by omega, by go_num, by rw [HE.out], by rw [HE.out], trivial⟩
            case measure => simp [intOf]; omega
          · have hr' : decide (room < 0) = false := by simpa using hr
            by_cases hfit : room - ld n < s
            · have hf1 : decide (room - ld n < s) = true := by simpa using hfit
              have HE : Hid (GG (n + 1 - 1) = GG (n - 1)) := by
                show _ = _
                rw [hnn, STEP.out n hn1, if_neg (by unfold mayG; simp [hfit])]
              have hr3 : -9223372036854775808 ≤ room - ld n := by omega
              have hr4 : room - ld n ≤ 9223372036854775807 := by omega
              generalize ld n = x at *
              clear hth hbut
              go_wp2_with fail
              go_roundw
              case rel => exact ⟨n + 1, by omega, by omega, by go_num, by rw [HE.out], by rw [HE.out], trivial⟩
              case measure => simp [intOf]; omega
            · have hf1 : decide (room - ld n < s) = false := by simpa using hfit
              have HG : Hid (GG n = (match GG (n - 1) with
                | none => some (n, costT (ld n + s) (wtT l n))
                | some (m, y) => if placeT (costT (ld n + s) (wtT l n)) < placeT y then some (n, costT (ld n + s) (wtT l n)) else some (m, y))) := by
                show _ = _
                rw [STEP.out n hn1, if_pos (by unfold mayG; simp [hfit, hth, hbut])]
              have hr3 : -9223372036854775808 ≤ room - ld n := by omega
              have hr4 : room - ld n ≤ 9223372036854775807 := by omega
              have hr5 : ld n + s ≤ 9223372036854775807 := by omega
              have hr6 : -9223372036854775808 ≤ ld n + s := by omega
              have co := fun W => CO.out (wtT l n) W (ld n + s) (WW.out n) hr5
              have cw2 : Wd (costT (ld n + s) (wtT l n)) := costT_wd _ _
              by_cases hwl : (n : Int) ≤ (lw : Int)
              · have hwl' : decide ((n : Int) ≤ (lw : Int)) = true := by simpa using hwl
                have hwl'' : decide (n ≤ lw) = true := by simp; omega
                obtain ⟨k, hkn⟩ : ∃ k, n = k + 1 := ⟨n - 1, by omega⟩
                obtain ⟨bw, offw, xw, rfl, hxw, hxi⟩ := HL.out.at k (by omega)
                have hwt : wtT l n = xw := by unfold wtT; rw [hkn, Nat.add_sub_cancel, List.getD, hxi]; rfl
                rw [hwt] at co cw2 HG
                have hk1 : (n : Int) - 1 = (k : Int) := by omega
                have hkl : (k : Int) < (lw : Int) := by omega
                generalize costT (ld n + s) xw = cx at co cw2 HG
                have cw := cw2
                generalize ld n = x at *
                clear hth hbut hwt hxi hkn cw2
                cases hp : GG (n - 1) with
                | none =>
                  have HE : Hid (GG (n + 1 - 1) = some (n, cx)) := by show _ = _; rw [hnn, HG.out, hp]
                  have hg0 : gI none = 0 := rfl
                  rw [hg0]
                  clear hp HG
                  go_wp2_with (first | (go_at_call 24; refine (co _).mono ?_; rintro e w3 ⟨rfl, hw3⟩; rw [hw3]; clear hw3 w3))
                  go_roundw
                  case rel => exact ⟨n + 1, by omega, by omega, by go_num, by rw [HE.out]; rfl, by rw [HE.out]; rfl, trivial⟩
                  case measure => simp [intOf]; omega
                | some pq =>
                  obtain ⟨m, y⟩ := pq
                  obtain ⟨hm1, _, _, hyw⟩ := GIN.out _ _ _ hp
                  have hgm : gI (some (m, y)) = m := rfl
                  have hgy : gX (some (m, y)) = y := rfl
                  rw [hgm, hgy]
                  have hm0 : ((m : Int) == 0) = false := by simp; omega
                  have ls := fun W => LS.out cx y W cw hyw
                  by_cases hless : placeT cx < placeT y
                  · have HE : Hid (GG (n + 1 - 1) = some (n, cx)) := by show _ = _; rw [hnn, HG.out, hp]; dsimp only; rw [if_pos hless]
                    have hl : decide (placeT cx < placeT y) = true := by simpa using hless
                    rw [hl] at ls
                    clear hp HG hless hl hgm hgy
                    go_wp2_with (first | (go_at_call 24; refine (co _).mono ?_; rintro e w3 ⟨rfl, hw3⟩; rw [hw3]; clear hw3 w3) | (go_at_call 25; refine (ls _).mono ?_; rintro e w3 ⟨rfl, hw3⟩; rw [hw3]; clear hw3 w3))
                    go_roundw
                    case rel => exact ⟨n + 1, by omega, by omega, by go_num, by rw [HE.out]; rfl, by rw [HE.out]; rfl, trivial⟩
                    case measure => simp [intOf]; omega
                  · have HE : Hid (GG (n + 1 - 1) = some (m, y)) := by show _ = _; rw [hnn, HG.out, hp]; dsimp only; rw [if_neg hless]
                    have hl : decide (placeT cx < placeT y) = false := by simpa using hless
                    rw [hl] at ls
                    clear hp HG hless hl hgm hgy
                    go_wp2_with (first | (go_at_call 24; refine (co _).mono ?_; rintro e w3 ⟨rfl, hw3⟩; rw [hw3]; clear hw3 w3) | (go_at_call 25; refine (ls _).mono ?_; rintro e w3 ⟨rfl, hw3⟩; rw [hw3]; clear hw3 w3))
                    go_roundw
                    case rel => exact ⟨n + 1, by omega, by omega, by go_num, by rw [HE.out]; rfl, by rw [HE.out]; rfl, trivial⟩
                    case measure => simp [intOf]; omega
              · have hwl' : decide ((n : Int) ≤ (lw : Int)) = false := by simpa using hwl
                have hwl'' : decide (n ≤ lw) = false := by simp; omega
                have hwt : wtT l n = 0 := by unfold wtT; rw [List.getD, List.getElem?_eq_none (by have := HLW.out; omega)]; rfl
                rw [hwt] at co cw2 HG
                generalize costT (ld n + s) 0 = cx at co cw2 HG
                have cw := cw2
                generalize ld n = x at *
                clear hth hbut hwt cw2
                cases hp : GG (n - 1) with
                | none =>
                  have HE : Hid (GG (n + 1 - 1) = some (n, cx)) := by show _ = _; rw [hnn, HG.out, hp]
                  have hg0 : gI none = 0 := rfl
                  rw [hg0]
                  clear hp HG
                  go_wp2_with (first | (go_at_call 24; refine (co _).mono ?_; rintro e w3 ⟨rfl, hw3⟩; rw [hw3]; clear hw3 w3))
                  go_roundw
                  case rel => exact ⟨n + 1, by omega, by omega, by go_num, by rw [HE.out]; rfl, by rw [HE.out]; rfl, trivial⟩
                  case measure => simp [intOf]; omega
                | some pq =>
                  obtain ⟨m, y⟩ := pq
                  obtain ⟨hm1, _, _, hyw⟩ := GIN.out _ _ _ hp
                  have hgm : gI (some (m, y)) = m := rfl
                  have hgy : gX (some (m, y)) = y := rfl
                  rw [hgm, hgy]
                  have hm0 : ((m : Int) == 0) = false := by simp; omega
                  have ls := fun W => LS.out cx y W cw hyw
                  by_cases hless : placeT cx < placeT y
                  · have HE : Hid (GG (n + 1 - 1) = some (n, cx)) := by show _ = _; rw [hnn, HG.out, hp]; dsimp only; rw [if_pos hless]
                    have hl : decide (placeT cx < placeT y) = true := by simpa using hless
                    rw [hl] at ls
                    clear hp HG hless hl hgm hgy
                    go_wp2_with (first | (go_at_call 24; refine (co _).mono ?_; rintro e w3 ⟨rfl, hw3⟩; rw [hw3]; clear hw3 w3) | (go_at_call 25; refine (ls _).mono ?_; rintro e w3 ⟨rfl, hw3⟩; rw [hw3]; clear hw3 w3))
                    go_roundw
                    case rel => exact ⟨n + 1, by omega, by omega, by go_num, by rw [HE.out]; rfl, by rw [HE.out]; rfl, trivial⟩
                    case measure => simp [intOf]; omega
                  · have HE : Hid (GG (n + 1 - 1) = some (m, y)) := by show _ = _; rw [hnn, HG.out, hp]; dsimp only; rw [if_neg hless]
                    have hl : decide (placeT cx < placeT y) = false := by simpa using hless
                    rw [hl] at ls
                    clear hp HG hless hl hgm hgy
                    go_wp2_with (first | (go_at_call 24; refine (co _).mono ?_; rintro e w3 ⟨rfl, hw3⟩; rw [hw3]; clear hw3 w3) | (go_at_call 25; refine (ls _).mono ?_; rintro e w3 ⟨rfl, hw3⟩; rw [hw3]; clear hw3 w3))
                    go_roundw
                    case rel => exact ⟨n + 1, by omega, by omega, by go_num, by rw [HE.out]; rfl, by rw [HE.out]; rfl, trivial⟩
                    case measure => simp [intOf]; omega
    · have hle' : ¬ (n : Int) ≤ 6 := by omega
      obtain rfl : n = 7 := by omega
      cases hp : GG (7 - 1) with
      | none =>
        have H6 : Hid (GG 6 = none) := hp
        have hg0 : gI none = 0 := rfl
        rw [hg0]
        clear hp
        go_wp2_with fail
        go_ret
        refine ⟨by rw [H6.out]; rfl, ?_, Kept.refl _ _⟩
        rw [H6.out]
        have e : ldUp ld (gI none) s = ld := by funext j; unfold ldUp; rw [if_neg (by intro h; exact h.2 rfl)]
        rw [e]
        exact HO.out
      | some pq =>
        obtain ⟨m, y⟩ := pq
        have H6 : Hid (GG 6 = some (m, y)) := hp
        obtain ⟨hm1, hm6, hmay, _⟩ := GIN.out _ _ _ H6.out
        have hgm : gI (some (m, y)) = m := rfl
        rw [hgm]
        have hth : th m = true ∧ ld m + s ≤ room := by
          unfold mayG at hmay
          simp only [Bool.and_eq_true, Bool.not_eq_true', decide_eq_false_iff_not] at hmay
          exact ⟨hmay.1.1, by omega⟩
        obtain ⟨hx0, hx1⟩ := HLD.out m hm1 hm6 hth.1
        obtain ⟨c2, hcl, hln, hfr⟩ := HO.out.cell m (by omega)
        rw [lV_at ld (by omega)] at hln
        obtain rfl : Value.int .i64 (ld m) = c2 := Option.some.inj hln
        have N2 : Hid (VOwn 3 B (wr.setCell ⟨gl, m, none⟩ (.int .i64 (ld m + s))) (.slice (some ⟨gl, 0, none⟩) 7 7) (lV (ldUp ld m s))) := by
          show VOwn _ _ _ _ _
          rw [← lV_set ld (by omega) (by omega) s]
          exact HO.out.set m _
        have K2 : Hid (Kept (fun k => k = gl) wr (wr.setCell ⟨gl, m, none⟩ (.int .i64 (ld m + s)))) := Kept.of_grown (HO.out.setBelow m _) (fun k hk => by cases hk; rfl)
        have hm0 : decide ((0 : Int) < (m : Int)) = true := by simp; omega
        have hm0' : decide (0 < m) = true := by simp; omega
        have hm7 : (m : Int) < 7 := by omega
        have hr5 : ld m + s ≤ 9223372036854775807 := by omega
        have hr6 : -9223372036854775808 ≤ ld m + s := by omega
        clear hp hmay hth hgm hln
        generalize ld m = x at *
        go_wp2_with fail
        go_ret
        exact ⟨by rw [H6.out]; rfl, by rw [H6.out]; exact N2.out, K2.out⟩
end Go.Proofs.Ytdaoeabnjfaoiaa
namespace Go.Proofs.Ytdaoeabnjfaoiaa
open Go Go.Lib Go.RowKit
set_option maxRecDepth 20000

/-! What the reference's Deal holds. -/
theorem first_ex {K : Nat → Int} {o : List Nat} : ∀ m : Nat, (∃ i, i < m ∧ i ∉ o) → ∃ b, IsFirst K o m b
  | 0, h => by obtain ⟨i, hi, _⟩ := h; omega
  | m + 1, h => by
    by_cases hex : ∃ i, i < m ∧ i ∉ o
    · obtain ⟨b, hb⟩ := first_ex m hex
      by_cases hm : m ∈ o
      · exact ⟨b, first_skip hb (.inl hm)⟩
      · by_cases hk : K m < K b
        · exact ⟨m, first_take hb hm hk⟩
        · exact ⟨b, first_skip hb (.inr hk)⟩
    · obtain ⟨i, hi, hio⟩ := h
      have him : i = m := by
        by_cases e : i = m
        · exact e
        · exact absurd ⟨i, by omega, hio⟩ hex
      subst him
      refine ⟨i, first_begin hio fun j hj => ?_⟩
      by_cases hjo : j ∈ o
      · exact hjo
      · exact absurd ⟨j, hj, hjo⟩ hex
theorem part_full {K : Nat → Int} {n : Nat} : ∀ (f : Nat) (o : List Nat), PartOrd K n o → o.length + f = n → ∃ t, IsOrd K n (o ++ t)
  | 0, o, h, hl => ⟨[], by rw [List.append_nil]; exact part_all h (by omega)⟩
  | f + 1, o, h, hl => by
    obtain ⟨i, hi, hio⟩ := part_more (n := n) (o := o) (by omega)
    obtain ⟨b, hb⟩ := first_ex (K := K) (o := o) n ⟨i, hi, hio⟩
    obtain ⟨t, ht⟩ := part_full f (o ++ [b]) (part_snoc h hb) (by simp; omega)
    exact ⟨b :: t, by rw [List.append_assoc] at ht; exact ht⟩
theorem part_len {K : Nat → Int} {n : Nat} {o : List Nat} (h : PartOrd K n o) : o.length ≤ n := places_le n o h.1 (part_nodup h)
/-- With just one there nobody is left for a backup. -/
theorem two_none {th : Nat → Bool} {ld : Nat → Int} {wt : Nat → Nat} {room s : Int} {one : Nat} (hc : cntT th ≤ 1) (h1 : 1 ≤ one) (h6 : one ≤ 6) (ht : th one = true) : giveN th ld wt room s one = 0 := by
  unfold giveN
  rw [giveGo_none]
  · rfl
  · intro n n1 n6
    unfold mayG
    by_cases e : n = one
    · simp [e]
    · have : th n = false := by
        cases hn : th n with
        | false => rfl
        | true =>
          exfalso
          unfold cntT at hc
          have hb : ∀ b : Bool, b.toNat = if b then 1 else 0 := fun b => by cases b <;> rfl
          simp only [hb] at hc
          rcases (show one = 1 ∨ one = 2 ∨ one = 3 ∨ one = 4 ∨ one = 5 ∨ one = 6 by omega) with rfl | rfl | rfl | rfl | rfl | rfl <;>
          rcases (show n = 1 ∨ n = 2 ∨ n = 3 ∨ n = 4 ∨ n = 5 ∨ n = 6 by omega) with rfl | rfl | rfl | rfl | rfl | rfl <;>
          first | exact absurd rfl e | (rw [ht, hn] at hc; simp only [if_true] at hc; omega)
      rw [this]
      rfl
def dV (o : List Nat) (n : Nat) : List Value := (List.range n).map fun i => Value.bool (decide (i ∈ o))
theorem dV_len (o : List Nat) (n : Nat) : (dV o n).length = n := by simp [dV]
theorem dV_at (o : List Nat) {n i : Nat} (h : i < n) : (dV o n)[i]? = some (.bool (decide (i ∈ o))) := by unfold dV; rw [List.getElem?_map, List.getElem?_range h]; rfl
theorem dV_nil (n : Nat) : dV [] n = List.replicate n (.bool false) := by
  unfold dV
  rw [List.eq_replicate_iff]
  exact ⟨by simp, fun v hv => by obtain ⟨i, _, rfl⟩ := List.mem_map.1 hv; simp⟩
theorem dV_set (o : List Nat) {n i : Nat} (h : i < n) : (dV o n).set i (.bool true) = dV (o ++ [i]) n := by
  apply List.ext_getElem?
  intro j
  rw [List.getElem?_set]
  by_cases e : i = j
  · subst e
    rw [if_pos rfl, dV_len, if_pos h, dV_at _ h]
    simp
  · rw [if_neg e]
    by_cases hj : j < n
    · rw [dV_at _ hj, dV_at _ hj]
      congr 2
      simp [show ¬ j = i from fun x => e x.symm]
    · rw [List.getElem?_eq_none (by rw [dV_len]; omega), List.getElem?_eq_none (by rw [dV_len]; omega)]
theorem tV_len (th : Nat → Bool) : (tV th).length = 7 := by simp [tV]
theorem tV_none (th : Nat → Bool) (h : ∀ k, 1 ≤ k → k ≤ 6 → th k = false) : tV th = List.replicate 7 (.bool false) := by
  unfold tV
  rw [List.eq_replicate_iff]
  refine ⟨by simp, fun v hv => ?_⟩
  obtain ⟨i, hi, rfl⟩ := List.mem_map.1 hv
  rw [List.mem_range] at hi
  by_cases e : i = 0
  · rw [if_pos e]
  · rw [if_neg e, h i (by omega) (by omega)]
theorem tV_set (th : Nat → Bool) {m : Nat} (h1 : 1 ≤ m) (h6 : m ≤ 6) : (tV th).set m (.bool true) = tV (updB th m) := by
  apply List.ext_getElem?
  intro j
  rw [List.getElem?_set]
  by_cases e : m = j
  · subst e
    rw [if_pos rfl, tV_len, if_pos (by omega), tV_at _ h1 (by omega)]
    simp [updB]
  · rw [if_neg e]
    rcases Nat.lt_or_ge j 7 with hj | hj
    · rcases Nat.eq_zero_or_pos j with rfl | h0
      · unfold tV; simp
      · rw [tV_at _ h0 hj, tV_at _ h0 hj]
        simp [updB, show ¬ j = m from fun x => e x.symm]
    · rw [List.getElem?_eq_none (by rw [tV_len]; omega), List.getElem?_eq_none (by rw [tV_len]; omega)]
theorem tV_congr {th th' : Nat → Bool} (h : ∀ k, 1 ≤ k → k ≤ 6 → th k = th' k) : tV th = tV th' := by
  unfold tV
  refine List.map_congr_left fun i hi => ?_
  rw [List.mem_range] at hi
  by_cases e : i = 0
  · rw [if_pos e, if_pos e]
  · rw [if_neg e, if_neg e, h i (by omega) (by omega)]
theorem cnt_congr {th th' : Nat → Bool} (h : ∀ k, 1 ≤ k → k ≤ 6 → th k = th' k) : cntT th = cntT th' := by
  unfold cntT
  rw [h 1 (by omega) (by omega), h 2 (by omega) (by omega), h 3 (by omega) (by omega), h 4 (by omega) (by omega), h 5 (by omega) (by omega), h 6 (by omega) (by omega)]
theorem lV_zero : lV (fun _ => 0) = List.replicate 7 (.int .i64 0) := by
  unfold lV
  rw [List.eq_replicate_iff]
  exact ⟨by simp, fun v hv => by obtain ⟨i, _, rfl⟩ := List.mem_map.1 hv; rfl⟩
structure RdS (B : Nat) (w : World) (go gd gl gt n : Nat) (out : Nat → Nat × Nat) (o : List Nat) (ld : Nat → Int) (th : Nat → Bool) : Prop where
  p : POwn B w (.slice (some ⟨go, 0, none⟩) n n) (pairsT out n)
  d : VOwn 4 B w (.slice (some ⟨gd, 0, none⟩) n n) (dV o n)
  l : VOwn 3 B w (.slice (some ⟨gl, 0, none⟩) 7 7) (lV ld)
  t : VOwn 4 B w (.slice (some ⟨gt, 0, none⟩) 7 7) (tV th)
  od : go < gd
  dl : gd < gl
  lt : gl < gt
  b : B ≤ go
theorem RdS.below {B : Nat} {w w' : World} {go gd gl gt n : Nat} {out : Nat → Nat × Nat} {o : List Nat} {ld : Nat → Int} {th : Nat → Bool} (h : RdS B w go gd gl gt n out o ld th) (hb : Below w.heap.size w w') : RdS B w' go gd gl gt n out o ld th :=
  ⟨gown_below h.p hb, h.d.below hb, h.l.below hb, h.t.below hb, h.od, h.dl, h.lt, h.b⟩
theorem own_ne {j g : Nat} {n c : Nat} (h : (Value.slice (some ⟨g, 0, none⟩) n c).ownBlock = some j) : j = g := by simpa [Value.ownBlock] using h.symm
theorem RdS.done {B : Nat} {w : World} {go gd gl gt n : Nat} {out : Nat → Nat × Nat} {o : List Nat} {ld : Nat → Int} {th : Nat → Bool} (h : RdS B w go gd gl gt n out o ld th) {i : Nat} (hi : i < n) : RdS B (w.setCell ⟨gd, i, none⟩ (.bool true)) go gd gl gt n out (o ++ [i]) ld th := by
  have hk : Kept (fun k => k = gd) w (w.setCell ⟨gd, i, none⟩ (.bool true)) := Kept.of_grown (h.d.setBelow i _) (fun k hk => by cases hk; rfl)
  have h1 := h.od; have h2 := h.dl; have h3 := h.lt
  refine ⟨hk.own h.p (fun j hj e => ?_), by rw [← dV_set o hi]; exact h.d.set i _, hk.own h.l (fun j hj e => ?_), hk.own h.t (fun j hj e => ?_), h.od, h.dl, h.lt, h.b⟩
  · have := own_ne hj; omega
  · have := own_ne hj; omega
  · have := own_ne hj; omega
theorem RdS.load {B : Nat} {w w' : World} {go gd gl gt n : Nat} {out : Nat → Nat × Nat} {o : List Nat} {ld ld' : Nat → Int} {th : Nat → Bool} (h : RdS B w go gd gl gt n out o ld th) (hk : Kept (fun k => k = gl) w w') (hl : VOwn 3 B w' (.slice (some ⟨gl, 0, none⟩) 7 7) (lV ld')) : RdS B w' go gd gl gt n out o ld' th := by
  have h1 := h.od; have h2 := h.dl; have h3 := h.lt
  refine ⟨hk.own h.p (fun j hj e => ?_), hk.own h.d (fun j hj e => ?_), hl, hk.own h.t (fun j hj e => ?_), h.od, h.dl, h.lt, h.b⟩
  · have := own_ne hj; omega
  · have := own_ne hj; omega
  · have := own_ne hj; omega
theorem RdS.out {B : Nat} {w : World} {go gd gl gt n : Nat} {out : Nat → Nat × Nat} {o : List Nat} {ld : Nat → Int} {th : Nat → Bool} (h : RdS B w go gd gl gt n out o ld th) {i : Nat} (hi : i < n) (a b : Nat) :
    RdS B ((w.setCell ⟨go, i * 2, none⟩ (.int .i64 (a : Int))).setCell ⟨go, i * 2 + 1, none⟩ (.int .i64 (b : Int))) go gd gl gt n (fun j => if j = i then (a, b) else out j) o ld th ∧ Kept (fun k => k = go) w ((w.setCell ⟨go, i * 2, none⟩ (.int .i64 (a : Int))).setCell ⟨go, i * 2 + 1, none⟩ (.int .i64 (b : Int))) := by
  obtain ⟨hP, hgr⟩ := h.p.set (by rw [pairs_len]) i hi (a : Int) (b : Int)
  rw [pairs_set] at hP
  have hk := Kept.of_grown (X := fun k => k = go) hgr (fun k hk => by cases hk; rfl)
  have h1 := h.od; have h2 := h.dl; have h3 := h.lt
  refine ⟨⟨hP, hk.own h.d (fun j hj e => ?_), hk.own h.l (fun j hj e => ?_), hk.own h.t (fun j hj e => ?_), h.od, h.dl, h.lt, h.b⟩, hk⟩
  · have := own_ne hj; omega
  · have := own_ne hj; omega
  · have := own_ne hj; omega
theorem RdS.there {B : Nat} {w : World} {go gd gl gt n : Nat} {out : Nat → Nat × Nat} {o : List Nat} {ld : Nat → Int} {th : Nat → Bool} (h : RdS B w go gd gl gt n out o ld th) {m : Nat} (h1 : 1 ≤ m) (h6 : m ≤ 6) : RdS B (w.setCell ⟨gt, m, none⟩ (.bool true)) go gd gl gt n out o ld (updB th m) ∧ Kept (fun k => k = gt) w (w.setCell ⟨gt, m, none⟩ (.bool true)) := by
  have hk : Kept (fun k => k = gt) w (w.setCell ⟨gt, m, none⟩ (.bool true)) := Kept.of_grown (h.t.setBelow m _) (fun k hk => by cases hk; rfl)
  have h1' := h.od; have h2 := h.dl; have h3 := h.lt
  refine ⟨⟨hk.own h.p (fun j hj e => ?_), hk.own h.d (fun j hj e => ?_), hk.own h.l (fun j hj e => ?_), by rw [← tV_set th h1 h6]; exact h.t.set m _, h.od, h.dl, h.lt, h.b⟩, hk⟩
  · have := own_ne hj; omega
  · have := own_ne hj; omega
  · have := own_ne hj; omega
theorem RdS.congr {B : Nat} {w : World} {go gd gl gt n : Nat} {out : Nat → Nat × Nat} {o : List Nat} {ld : Nat → Int} {th th' : Nat → Bool} (h : RdS B w go gd gl gt n out o ld th) (ht : ∀ k, 1 ≤ k → k ≤ 6 → th k = th' k) : RdS B w go gd gl gt n out o ld th' :=
  ⟨h.p, h.d, h.l, by rw [← tV_congr ht]; exact h.t, h.od, h.dl, h.lt, h.b⟩
theorem RdS.doneK {B : Nat} {w : World} {go gd gl gt n : Nat} {out : Nat → Nat × Nat} {o : List Nat} {ld : Nat → Int} {th : Nat → Bool} (h : RdS B w go gd gl gt n out o ld th) (i : Nat) : Kept (fun k => k = gd) w (w.setCell ⟨gd, i, none⟩ (.bool true)) := Kept.of_grown (h.d.setBelow i _) (fun k hk => by cases hk; rfl)
theorem th_more {live : List Int} {k : Nat} {m : Nat} (hx : live[k]? = some (m : Int)) : ∀ j, 1 ≤ j → j ≤ 6 → updB (thT (live.take k)) m j = thT (live.take (k + 1)) j := fun j _ _ => by
  rw [th_take hx]
  unfold updB
  by_cases e : j = m
  · subst e; simp
  · rw [if_neg e]
    have : (((m : Nat) : Int) == (j : Int)) = false := by simp; omega
    rw [this, Bool.or_false]
theorem th_odd {live : List Int} {k : Nat} {x : Int} (hx : live[k]? = some x) (ho : x < 1 ∨ 6 < x) : ∀ j, 1 ≤ j → j ≤ 6 → thT (live.take k) j = thT (live.take (k + 1)) j := fun j _ _ => by
  rw [th_take hx]
  have : (x == (j : Int)) = false := by simp; omega
  rw [this, Bool.or_false]
theorem th_same {live : List Int} {k : Nat} {m : Nat} (hx : live[k]? = some (m : Int)) (ht : thT (live.take k) m = true) : ∀ j, 1 ≤ j → j ≤ 6 → thT (live.take k) j = thT (live.take (k + 1)) j := fun j _ _ => by
  rw [th_take hx]
  by_cases e : j = m
  · subst e; rw [ht]; rfl
  · have : (((m : Nat) : Int) == (j : Int)) = false := by simp; omega
    rw [this, Bool.or_false]
end Go.Proofs.Ytdaoeabnjfaoiaa
